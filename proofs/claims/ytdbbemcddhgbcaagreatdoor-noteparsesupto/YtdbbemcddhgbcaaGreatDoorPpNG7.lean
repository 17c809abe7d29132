import Derived.Test.YtdbbemcddhgbcaaGreatDoorPpNG6
import Derived.Test.YtdbbemcddhgbcaaGreatDoorPpNQ5
import Derived.Test.YtdbbemcddhgbcaaGreatDoorPpNB3
/- Layer 22: Parse, in the program -/
namespace Go.Proofs.YtdbbemcddhgbcaaGreatDoor
open Go.RowKit Go.Shelf
theorem results_row_tmp2_22 {P : Program} {fn : Func} {p u u2 : Tmp} {ty : TypeId} (h : fn.results = #[.cell p ty, .tmp u, .tmp u2]) (tmps : Array Value) (w : World) (g : Nat) (t : TypeId) (cs : Array Value) (fr : Nat × Nat) (d : TypeDesc)
    (hp : tmps.getD p undef = .pointer (some ⟨g, 0, none⟩)) (hg : w.heap[g]? = some (.cells cs t fr))
    (hu : P.underlying ty = some d) (hd : (match d with | .struct _ | .array _ _ => true | _ => false) = true) (hi : (P.info? ty).map (·.size) = some cs.size) :
    (results fn tmps).run P w = .ok (.tuple #[.agg cs, tmps.getD u undef, tmps.getD u2 undef]) w := by
  have e : (results fn tmps).run P w = ((asAddr (tmps.getD p undef)).run P w).andThen fun a w₁ => ((loadVar ty a).run P w₁).andThen fun v w₂ => .ok (.tuple #[v, tmps.getD u undef, tmps.getD u2 undef]) w₂ := by
    simp only [results, h]
    simp [Sem.run_bind, Result.andThen]
  rw [e, hp]
  simp [asAddr, run_loadVar_row w g t ty cs fr d hg hu hd hi, Result.andThen]
namespace Nt
def nr0 : Nr := ⟨⟨#[]⟩, 0, ⟨#[]⟩, []⟩
/-- what Parse answers -/
def psA (s : ByteArray) : Option Nr × Nat := prs (s.size + 1) 0 nr0 s
def PsQ (B : Nat) (P : Option Nr × Nat) (q : Ending) (w' : World) : Prop := match P.1 with
  | some t1 => ∃ v, q = .returned (.tuple #[nv t1.O t1.z t1.R v, .int .i64 0, .int .i64 0]) ∧ Wz.OwnM 2 w' v t1.S.length (sgs t1.S) ∧ ∀ k, v.ownBlock = some k → B ≤ k
  | none => q = .returned (.tuple #[nv ⟨#[]⟩ 0 ⟨#[]⟩ (.slice none 0 0), .int .i64 220, .int .i64 ((P.2 : Int) + 1)])
theorem PsQ.no {B k : Nat} {q : Ending} {w' : World} (h : q = .returned (.tuple #[nv ⟨#[]⟩ 0 ⟨#[]⟩ (.slice none 0 0), .int .i64 220, .int .i64 ((k : Int) + 1)])) : PsQ B (none, k) q w' := h
theorem prs_le : ∀ (f k : Nat) (t : Nr) (s : ByteArray), (prs f k t s).2 ≤ k + s.size
  | 0, k, t, s => by unfold prs; exact Nat.le_add_right _ _
  | f + 1, k, t, s => by
    unfold prs
    split
    · rename_i h
      split
      · have h1 := prs_le f (k + 1) (by assumption) (cutR s)
        have h2 := cutR_size h
        omega
      · show k ≤ _; omega
    · split
      · show k ≤ _; omega
      · show k ≤ _; omega
set_option maxRecDepth 100000 in
set_option maxHeartbeats 8000000 in
theorem parse_any {E : Es} {w : World} (hN : Nw w E) (s : ByteArray) (hs : s.size ≤ 140737488355328) : Calls Tryz.prog 16 #[.string s] w fun q w' => PsQ w.heap.size (psA s) q w' ∧ Below w.heap.size w w' := by
  have b0 := (Below.refl w.heap.size w).alloc (Nat.le_refl _) (.cells #[.string ⟨#[]⟩, .int .i64 0, .string ⟨#[]⟩, .slice none 0 0] 26)
  have x0 := Bx.new w ⟨#[]⟩ 0 ⟨#[]⟩ (.slice none 0 0)
  obtain ⟨W, hW⟩ : ∃ W, w.alloc (.cells #[.string ⟨#[]⟩, .int .i64 0, .string ⟨#[]⟩, .slice none 0 0] 26) = W := ⟨_, rfl⟩
  have hz : W.heap.size = w.heap.size + 1 := by rw [← hW, size_alloc]
  rw [hW] at b0 x0
  have b1 := (Below.refl W.heap.size W).alloc (Nat.le_refl _) (.cells #[.string ⟨#[]⟩, .int .i64 0, .string ⟨#[]⟩, .slice none 0 0, .int .i64 0] 66)
  have r1 : Rb (W.alloc (.cells #[.string ⟨#[]⟩, .int .i64 0, .string ⟨#[]⟩, .slice none 0 0, .int .i64 0] 66)) W.heap.size nr0 (.slice none 0 0) 0 := heap_alloc_new W _
  have HW := hid hW
  have HZ := hid hz
  have HN := hid hN
  have HB0 := hid b0
  have HX0 := hid x0
  clear hW hz hN b0 x0
  have HL := hid (prs_le (s.size + 1) 0 nr0 s)
  have e9 : prs (s.size + 1) 0 nr0 s = psA s := rfl
  obtain ⟨⟨o, k⟩, hP⟩ : ∃ P, psA s = P := ⟨_, rfl⟩
  unfold Hid at HL
  rw [e9, hP] at HL
  rw [hP]
  rw [hP] at e9
  have HL := hid HL
  have HP := hid e9
  clear hP e9
  obtain ⟨u, hu⟩ : ∃ u, w.heap.size = u := ⟨_, rfl⟩
  have HU := hid hu
  rw [hu]
  clear hu
  go_enter Tryz.func16, Tryz.ntmps16
  go_upto_region 1 with fail
  rw [HW.out]
  rw [HU.out]
  go_upto_region 2 with fail
  obtain ⟨V, hV⟩ : ∃ V, W.alloc (.cells #[.string ⟨#[]⟩, .int .i64 0, .string ⟨#[]⟩, .slice none 0 0, .int .i64 0] 66) = V := ⟨_, rfl⟩
  rw [hV] at b1 r1 ⊢
  obtain ⟨g, hg⟩ : ∃ g, W.heap.size = g := ⟨_, rfl⟩
  rw [hg] at r1 ⊢
  have hBV : Below g W V := b1.mono (by omega)
  have HB1 := hid hBV
  have hw1 : w.heap.size < g := by have := HZ.out; omega
  have iR := read_any (E := E) (w := V) (g := g) (t := nr0) (fun w' b => (HN.out.below HB0.out).below ((b1).trans (b.mono (by omega)))) ⟨_, r1, Wz.OwnM.nil 2 _, fun q hq => by cases hq⟩ (Nat.zero_le _) s hs
  rw [HP.out] at iR
  have HG := hid hg
  have HV := hid r1.lt
  have HS := hid hs
  clear b1 r1 hV hg hBV hs
  rw [HU.out] at hw1
  have HUG := hid hw1
  have HX : Hid (∀ w', Below g V w' → Bx w' u ⟨#[]⟩ 0 ⟨#[]⟩ (.slice none 0 0)) := fun w' b => by
    have x1 := HX0.out
    rw [HU.out] at x1
    exact x1.kept ((b.block u HUG.out).trans (HB1.out.block u HUG.out))
  have HBW : Hid (∀ w', Below g V w' → Below u w w') := fun w' b => by
    have b0 := HB0.out
    rw [HU.out] at b0
    exact b0.trans ((HB1.out.trans b).mono (Nat.le_of_lt HUG.out))
  have HNV : Hid (∀ w', Below g V w' → Nw w' E) := fun w' b => HN.out.below (by
    have b0 := HBW.out w' b
    rw [← HU.out] at b0
    exact b0)
  clear hw1
  cases o with
  | some t1 =>
    obtain ⟨tO, tz, tR, tS⟩ := t1
    go_upto_region 5 with (go_at_call 36; (refine iR.mono ?_); rintro q w1 ⟨⟨rfl, v, hr, ho, hv⟩, b1⟩; have x1 := hid (HX.out w1 b1); have B1 := hid b1)
    obtain ⟨a', c', rfl, -, -⟩ := ho.shape
    have p0 := hr.c0
    have p1 := hr.c1
    have p2 := hr.c2
    have p3 := hr.c3
    have HO := hid ho
    have HVV := hid hv
    have HLT := hid hr.lt
    clear hr ho hv iR b1
    go_wp2_with ((with_reducible show wpList _ _ _ (Oper.mk _ (Op.store 26 _ _) _ _ _ _ :: _) _ _); go_must (refine wpList_store_row rfl 26 _ _ rfl u _ rfl rfl 26 _ x1.out (sizeNt22 _ _ _ _) rfl (oneNt22 _ _ _ _ _ _) ?_))
    refine bodyPost_ret (results_row_tmp2_22 rfl _ _ u 26 _ (0, 0) _ rfl (setRow_heap _ _ _ _ _ _ x1.out) Tryz.underlying26 rfl (sizeNt22 _ _ _ _)) rfl ⟨⟨_, rfl, ?_, ?_⟩, ?_⟩
    · have := HVV.out
      have hug := HUG.out
      exact HO.out.kept (But.size ((But.refl u _).setRow _)) (fun q hq => (But.block ((But.refl u _).setRow _)) q (HO.out.lt q hq) (by have := HVV.out q hq; omega))
    · intro q hq
      have := HVV.out q hq
      have := HUG.out
      omega
    · exact Below.setRow (HBW.out w1 B1.out) (Nat.le_refl _) _
  | none =>
    go_upto_region 4 with (go_at_call 36; (refine iR.mono ?_); rintro q w1 ⟨⟨⟨x, rfl⟩, t1, hR⟩, b1⟩; unfold FV EV)
    have i1 := errnoOf_form (HNV.out w1 b1) x
    have i2 : ∀ w', Below w1.heap.size w1 w' → Calls Tryz.prog 37 #[.pointer (some ⟨g, 0, none⟩)] w' fun q w'' => q = .returned (.int .i64 ((k + 1 : Nat) : Int)) ∧ w'' = w' := fun w' b => by
      obtain ⟨v, hb, _, _⟩ := hR
      exact line_any (hb.below b) (by have := HL.out; have := HS.out; have h9 : k ≤ 0 + s.size := HL.out; omega)
    have HX1 : Hid (∀ w', Below w1.heap.size w1 w' → Bx w' u ⟨#[]⟩ 0 ⟨#[]⟩ (.slice none 0 0) ∧ Below u w w') := fun w' b => by
      have b2 := b1.trans (b.mono (Nat.le_of_lt hR.lt))
      exact ⟨HX.out w' b2, HBW.out w' b2⟩
    clear iR b1 hR
    unfold FV EV at *
    go_wp2_with (first
      | (go_at_call 32; (refine i1.mono ?_); rintro q w2 ⟨rfl, b2⟩)
      | (go_at_call 37; (refine (i2 w2 b2).mono ?_); rintro q w3 ⟨rfl, rfl⟩; have x1 := hid (HX1.out _ b2).1; have B1 := hid (HX1.out _ b2).2)
      | ((with_reducible show wpList _ _ _ (Oper.mk _ (Op.store 26 _ _) _ _ _ _ :: _) _ _); go_must (refine wpList_store_row rfl 26 _ _ rfl u _ rfl rfl 26 _ x1.out (sizeNt22 _ _ _ _) rfl (oneNt22 _ _ _ _ _ _) ?_)))
    refine bodyPost_ret (results_row_tmp2_22 rfl _ _ u 26 _ (0, 0) _ rfl (setRow_heap _ _ _ _ _ _ x1.out) Tryz.underlying26 rfl (sizeNt22 _ _ _ _)) rfl ⟨PsQ.no rfl, ?_⟩
    exact Below.setRow B1.out (Nat.le_refl _) _
end Nt
end Go.Proofs.YtdbbemcddhgbcaaGreatDoor

/- Layer 22: the document's lines -/
namespace Go.Proofs.YtdbbemcddhgbcaaGreatDoor
open Go.RowKit Go.Shelf
namespace Nt
/-- lines with their ends; what stands behind the last one -/
def brkL : List UInt8 → List (List UInt8) × List UInt8
  | [] => ([], [])
  | b :: t => if b.toNat = 10 then ([] :: (brkL t).1, (brkL t).2) else match (brkL t).1 with
    | [] => ([], b :: (brkL t).2)
    | l :: ls => ((b :: l) :: ls, (brkL t).2)
theorem brkL_cons (b : UInt8) (t : List UInt8) : brkL (b :: t) = if b.toNat = 10 then ([] :: (brkL t).1, (brkL t).2) else match (brkL t).1 with
    | [] => ([], b :: (brkL t).2)
    | l :: ls => ((b :: l) :: ls, (brkL t).2) := rfl
theorem brk_none : ∀ (p : List UInt8), (∀ b ∈ p, b.toNat ≠ 10) → brkL p = ([], p)
  | [], _ => rfl
  | b :: t, h => by
    have ih := brk_none t fun x hx => h x (List.mem_cons_of_mem _ hx)
    rw [brkL_cons, if_neg (h b List.mem_cons_self), ih]
theorem brk_some : ∀ (p : List UInt8) (c : UInt8) (q : List UInt8), (∀ b ∈ p, b.toNat ≠ 10) → c.toNat = 10 → brkL (p ++ c :: q) = (p :: (brkL q).1, (brkL q).2)
  | [], c, q, _, hc => by
    show brkL (c :: q) = _
    rw [brkL_cons, if_pos hc]
  | b :: t, c, q, h, hc => by
    have ih := brk_some t c q (fun x hx => h x (List.mem_cons_of_mem _ hx)) hc
    rw [List.cons_append, brkL_cons, if_neg (h b List.mem_cons_self), ih]
/-- the same line by line: of a text -/
def prsL : Nat → Nr → List (List UInt8) → List UInt8 → Option Nr × Nat
  | k, t, [], r => if r = [] ∧ 4 ≤ k then (some t, k) else (none, k)
  | k, t, l :: ls, r => match stp k t ⟨l.toArray⟩ with
    | some t' => prsL (k + 1) t' ls r
    | none => (none, k)
theorem eol_take (s : ByteArray) : ∀ b ∈ s.data.toList.take (eol s), b.toNat ≠ 10 := fun b hb => by
  obtain ⟨j, hj, e⟩ := List.mem_iff_getElem.1 hb
  rw [List.length_take] at hj
  rw [List.getElem_take] at e
  have h := List.not_of_lt_findIdx (p := fun b : UInt8 => b.toNat == 10) (xs := s.data.toList) (i := j) (by unfold eol at hj; omega)
  rw [e] at h
  intro e9
  rw [e9] at h
  exact absurd h (by decide)
theorem eol_brk {s : ByteArray} (h : eol s < s.size) : brkL s.data.toList = ((cutL s).data.toList :: (brkL (cutR s).data.toList).1, (brkL (cutR s).data.toList).2) := by
  have hl : eol s < s.data.toList.length := by rw [dlen]; exact h
  have hc : (s.data.toList[eol s]'hl).toNat = 10 := by
    have := List.findIdx_getElem (xs := s.data.toList) (p := fun b : UInt8 => b.toNat == 10) (w := hl)
    exact eq_of_beq this
  have e1 : (cutL s).data.toList = s.data.toList.take (eol s) := by
    unfold cutL
    rw [if_pos h, mid_data]
    simp
  have e2 : (cutR s).data.toList = s.data.toList.drop (eol s + 1) := by
    unfold cutR
    rw [if_pos h, mid_data, List.take_of_length_le (by rw [List.length_drop, dlen]; omega)]
  have e3 : s.data.toList = s.data.toList.take (eol s) ++ s.data.toList[eol s]'hl :: s.data.toList.drop (eol s + 1) := by
    rw [← List.drop_eq_getElem_cons hl, List.take_append_drop]
  rw [e1, e2]
  exact (congrArg brkL e3).trans (brk_some _ _ _ (eol_take s) hc)
theorem prs_prsL : ∀ (f k : Nat) (t : Nr) (s : ByteArray), s.size < f → prs f k t s = prsL k t (brkL s.data.toList).1 (brkL s.data.toList).2
  | 0, k, t, s, h => by omega
  | f + 1, k, t, s, h => by
    unfold prs
    by_cases he : eol s < s.size
    · rw [if_pos he, eol_brk he]
      have hs := cutR_size he
      show _ = (match stp k t ⟨(cutL s).data.toList.toArray⟩ with | some t' => prsL (k + 1) t' (brkL (cutR s).data.toList).1 (brkL (cutR s).data.toList).2 | none => (none, k))
      have e : (⟨(cutL s).data.toList.toArray⟩ : ByteArray) = cutL s := by apply Go.WideShapes.bytes_inj; simp
      rw [e]
      cases stp k t (cutL s) with
      | none => rfl
      | some t' => exact prs_prsL f (k + 1) t' (cutR s) (by omega)
    · have e9 : eol s = s.size := Nat.le_antisymm (eol_le s) (by omega)
      have ht : s.data.toList.take (eol s) = s.data.toList := List.take_of_length_le (by rw [dlen, e9]; exact Nat.le_refl _)
      have hn := eol_take s
      rw [ht] at hn
      rw [if_neg he, brk_none _ hn]
      unfold prsL
      have e : (s.size = 0 ∧ 4 ≤ k) = (s.data.toList = [] ∧ 4 ≤ k) := by
        rw [← dlen s, List.length_eq_zero_iff]
      simp only [e]
theorem psA_prsL (s : ByteArray) : psA s = prsL 0 nr0 (brkL s.data.toList).1 (brkL s.data.toList).2 := prs_prsL _ _ _ _ (Nat.lt_succ_self _)
theorem brk_len : ∀ (l : List UInt8), (brkL l).1.length ≤ l.length
  | [] => Nat.le_refl _
  | b :: t => by
    have ih := brk_len t
    rw [brkL_cons]
    split
    · simp; omega
    · split
      · simp
      · rename_i h; rw [h] at ih; simp at ih ⊢; omega
theorem brk_sub : ∀ (l : List UInt8), ∀ x ∈ (brkL l).1, x.length ≤ l.length
  | [], x, h => by cases h
  | b :: t, x, h => by
    have ih := brk_sub t
    rw [brkL_cons] at h
    split at h
    · rcases List.mem_cons.1 h with rfl | h
      · exact Nat.zero_le _
      · have := ih x h; simp; omega
    · split at h
      · cases h
      · rename_i l ls e
        rcases List.mem_cons.1 h with rfl | h
        · have := ih l (by rw [e]; exact List.mem_cons_self); simp; omega
        · have := ih x (by rw [e]; exact List.mem_cons_of_mem _ h); simp; omega
end Nt
end Go.Proofs.YtdbbemcddhgbcaaGreatDoor

/- Layer 22: the document's lines, in memory -/
namespace Go.Proofs.YtdbbemcddhgbcaaGreatDoor
open Go.RowKit Go.Shelf
namespace Nt
/-- no line's end between two places -/
def NoT (s : ByteArray) (f p : Nat) : Prop := ∀ b ∈ (s.data.toList.drop f).take (p - f), b.toNat ≠ 10
theorem seg_next (s : ByteArray) {f p : Nat} (hf : f ≤ p) (hp : p < s.size) : (s.data.toList.drop f).take (p + 1 - f) = (s.data.toList.drop f).take (p - f) ++ [s[p]'hp] := by
  rw [show p + 1 - f = (p - f) + 1 by omega, List.take_add_one, List.getElem?_drop, show f + (p - f) = p by omega, getL s p hp]
  rfl
theorem NoT.next {s : ByteArray} {f p : Nat} (h : NoT s f p) (hf : f ≤ p) (hp : p < s.size) (hb : (s[p]'hp).toNat ≠ 10) : NoT s f (p + 1) := fun b hb' => by
  rw [seg_next s hf hp] at hb'
  rcases List.mem_append.1 hb' with h1 | h1
  · exact h b h1
  · rw [List.mem_singleton] at h1; subst h1; exact hb
theorem seg_cut (s : ByteArray) {f p : Nat} (hf : f ≤ p) (hp : p < s.size) : s.data.toList.drop f = (s.data.toList.drop f).take (p - f) ++ (s[p]'hp) :: s.data.toList.drop (p + 1) := by
  have h1 : (s.data.toList.drop f).drop (p - f) = (s[p]'hp) :: s.data.toList.drop (p + 1) := by
    rw [List.drop_drop, show f + (p - f) = p by omega]
    have hl : p < s.data.toList.length := by rw [dlen]; exact hp
    rw [List.drop_eq_getElem_cons hl]
    rfl
  rw [← h1, List.take_append_drop]
/-- texts as lists of bytes -/
def bsL (A : List ByteArray) : List (List UInt8) := A.map fun x => x.data.toList
set_option maxRecDepth 100000 in
set_option maxHeartbeats 8000000 in
theorem rlines_any (s : ByteArray) (hs : s.size ≤ 1900000) (w : World) : Calls Tryz.prog 41 #[.string s] w fun q w' => (∃ v A, q = .returned (.tuple #[v, .string ⟨(brkL s.data.toList).2.toArray⟩]) ∧ bsL A = (brkL s.data.toList).1 ∧ Own w' w.heap.size v (tbs A)) ∧ Below w.heap.size w w' := by
  have hM : (s.size : Int) ≤ 1900000 := by omega
  have HS := hid hs
  clear hs
  go_enter Tryz.func41, Tryz.ntmps41
  go_wp2
  go_loopw [4, 5, 6] (fun v f i wr => ∃ (pos fr : Nat) (A : List ByteArray), pos ≤ s.size ∧ fr ≤ pos ∧ f = .int .i64 (fr : Int) ∧ i = .int .i64 (pos : Int) ∧ Hid (brkL s.data.toList = (bsL A ++ (brkL (s.data.toList.drop fr)).1, (brkL (s.data.toList.drop fr)).2)) ∧ Hid (NoT s fr pos) ∧ Hid (Own wr w.heap.size v (tbs A)) ∧ Hid (A.length ≤ pos) ∧ Hid (Below w.heap.size w wr)) (fun _ _ i _ => s.size - (intOf i).toNat)
  case atStart => exact ⟨0, 0, [], by omega, by omega, rfl, rfl, by unfold Hid bsL; rw [List.drop_zero]; rfl, by intro b hb; simp at hb, Own.nil _ _, Nat.le_refl _, Below.refl _ _⟩
  case round =>
    obtain ⟨pos, fr, A, hps, hfr, rfl, rfl, hE, hT, hO, hA, hB⟩ := hrel
    obtain ⟨av, cv, hv⟩ := Own.shape hO.out
    obtain ⟨nn, hnn⟩ : ∃ nn, (tbs A).length = nn := ⟨_, rfl⟩
    rw [hnn] at hv
    subst hv
    by_cases hp : pos < s.size
    · have hp' : (pos : Int) < (s.size : Int) := by omega
      obtain ⟨c, hc0, hlt, hix, hcc⟩ := index_any s (pos : Int) pos rfl hp
      have h3 := hid (hcc hp)
      by_cases hc : c = 10
      · have hc' : (c : Int) = 10 := by omega
        have hb10 : (s[pos]'hp).toNat = 10 := by rw [h3.out, hc]
        obtain ⟨v', w', hap, ho', hb', -⟩ := append_tb wr w.heap.size _ A (s.extract fr pos) hO.out (by have := hA.out; have := HS.out; omega) hB.out.size
        obtain ⟨av2, cv2, hv2⟩ := Own.shape ho'
        have hE2 : Hid (brkL s.data.toList = (bsL (A ++ [s.extract fr pos]) ++ (brkL (s.data.toList.drop (pos + 1))).1, (brkL (s.data.toList.drop (pos + 1))).2)) := by
          unfold Hid
          have e9 : brkL (s.data.toList.drop fr) = _ := (congrArg brkL (seg_cut s hfr hp)).trans (brk_some _ _ _ hT.out hb10)
          rw [hE.out, e9]
          unfold bsL
          rw [List.map_append]
          simp
        have hl2 : Hid ((A ++ [s.extract fr pos]).length ≤ pos + 1) := by unfold Hid; rw [List.length_append]; have := hA.out; simp; omega
        have r3 : ∀ W, (Instr.slice 9 (.string s) (some (.int .i64 (fr : Int))) (some (.int .i64 (pos : Int))) none).run Tryz.prog W = .ok (.string (s.extract fr pos)) W := fun W => by
          have h9 := run_slice_string (P := Tryz.prog) W 9 s .i64 .i64 (fr : Int) (pos : Int) Tryz.underlying9 (by omega) (by omega) (by omega)
          rw [Int.toNat_natCast, Int.toNat_natCast] at h9
          exact h9
        have BB := hid (hB.out.trans hb')
        have OO := hid ho'
        have HT2 : Hid (NoT s (pos + 1) (pos + 1)) := by intro b hb; rw [Nat.sub_self] at hb; cases hb
        subst hv2
        clear hc0 hcc hb10 hE hT hO hA hb' ho' hc
        generalize s.extract fr pos = X at *
        go_wp2_with ((with_reducible show wpList _ _ _ (Oper.mk _ (Op.call { callee := Callee.builtin Builtin.append, args := _, argTypes := #[70, 70] }) _ _ _ _ :: _) _ _); (refine Lib.wpList_append_run _ rfl _ _ 70 70 rfl (.slice av nn cv) (.slice (some ⟨wr.heap.size, 0, none⟩) 1 1) ?hs ?hx _ _ hap ?_); (case hs => go_simp); (case hx => go_simp); clear hap)
        exact ⟨⟨pos + 1, pos + 1, A ++ [X], hp, Nat.le_refl _, by go_num, by go_num, hE2, HT2, OO, hl2, BB⟩, by simp [intOf]; omega⟩
      · have hc' : ¬ (c : Int) = 10 := by omega
        have hT2 : Hid (NoT s fr (pos + 1)) := hT.out.next hfr hp (by rw [h3.out]; exact hc)
        have hA2 : Hid (A.length ≤ pos + 1) := hid (Nat.le_succ_of_le hA.out)
        clear hc0 hcc hT hA
        go_wp2
        exact ⟨⟨pos + 1, fr, A, hp, Nat.le_succ_of_le hfr, rfl, by go_num, hE, hT2, hO, hA2, hB⟩, by simp [intOf]; omega⟩
    · obtain rfl : pos = s.size := by omega
      have hp' : ¬ (s.size : Int) < (s.size : Int) := by omega
      have hT9 : ∀ b ∈ s.data.toList.drop fr, b.toNat ≠ 10 := fun b hb => hT.out b (by rw [List.take_of_length_le (by rw [List.length_drop, dlen]; exact Nat.le_refl _)]; exact hb)
      have e9 := hE.out
      rw [brk_none _ hT9, List.append_nil] at e9
      have hX : (⟨(s.data.toList.drop fr).toArray⟩ : ByteArray) = s.extract fr s.size := by
        apply Go.WideShapes.bytes_inj
        rw [mid_data, List.take_of_length_le (by rw [List.length_drop, dlen]; exact Nat.le_refl _)]
      have r4 : ∀ W, (Instr.slice 9 (.string s) (some (.int .i64 (fr : Int))) none none).run Tryz.prog W = .ok (.string (s.extract fr s.size)) W := fun W => by
        have h9 := run_slice_string_l (P := Tryz.prog) W 9 s Tryz.underlying9 .i64 (fr : Int) (by omega) (by omega)
        rw [Int.toNat_natCast] at h9
        exact h9
      have HE := hid e9
      have HX := hid hX
      clear e9 hX hT9 hE hT
      generalize s.extract fr s.size = X at *
      go_wp2
      go_quiet (fail)
      go_wp2
      go_ret2
      exact ⟨⟨_, A, by rw [HE.out]; show _ = Ending.returned (Value.tuple #[_, .string ⟨(s.data.toList.drop fr).toArray⟩]); rw [HX.out]; rfl, by rw [HE.out], hO.out⟩, ⟨hB.out.os, hB.out.tape, hB.out.output, hB.out.size, hB.out.block⟩⟩
end Nt
end Go.Proofs.YtdbbemcddhgbcaaGreatDoor
