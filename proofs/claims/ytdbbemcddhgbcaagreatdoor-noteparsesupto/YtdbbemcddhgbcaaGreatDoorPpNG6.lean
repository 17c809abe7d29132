import Derived.Test.YtdbbemcddhgbcaaGreatDoorPpNG5
/- Layer 22: a note's reader: a whole text, in the program -/
namespace Go.Proofs.YtdbbemcddhgbcaaGreatDoor
open Go.RowKit Go.Shelf
namespace Nt
/-- a text is read line by line: what it tells, if it may be; how many lines may be -/
def prs : Nat → Nat → Nr → ByteArray → Option Nr × Nat
  | 0, k, _, _ => (none, k)
  | f + 1, k, t, s => if eol s < s.size then (match stp k t (cutL s) with | some t' => prs f (k + 1) t' (cutR s) | none => (none, k)) else if s.size = 0 ∧ 4 ≤ k then (some t, k) else (none, k)
theorem cutL_size (s : ByteArray) : (cutL s).size ≤ s.size := by
  unfold cutL
  split
  · rw [ByteArray.size_extract]; omega
  · exact Nat.zero_le _
theorem cutR_size {s : ByteArray} (h : eol s < s.size) : (cutR s).size + 1 ≤ s.size := by
  unfold cutR
  rw [if_pos h, ByteArray.size_extract]; omega
theorem stp_few {k : Nat} {t t' : Nr} {l : ByteArray} (h : stp k t l = some t') (hS : t.S.length ≤ 16) : t'.S.length ≤ 16 := by
  unfold stp at h
  split at h
  · split at h
    · cases h; exact hS
    · cases h
  · split at h
    · split at h
      · cases h; exact hS
      · cases h
    · split at h
      · split at h
        · cases h; exact hS
        · cases h
      · split at h
        · split at h
          · cases h; exact hS
          · cases h
        · split at h
          · rename_i h9; cases h; exact h9.2.1
          · cases h
theorem take_any {E : Es} {w : World} {g k : Nat} {t : Nr} (hN : ∀ w', Below g w w' → Nw w' E) (h : Rs w g t k) (hk2 : k ≤ 9223372036854775806) (hS : t.S.length ≤ 16) (l : ByteArray) (hl : l.size ≤ 140737488355328) : Calls Tryz.prog 58 #[.pointer (some ⟨g, 0, none⟩), .string l] w fun q w' => TkQ t k l g q w' ∧ Below g w w' := by
  rcases (show k = 0 ∨ k = 1 ∨ k = 2 ∨ k = 3 ∨ 4 ≤ k by omega) with rfl | rfl | rfl | rfl | h4
  · exact take_0 h l
  · exact take_1 (hN w (Below.refl _ _)) h l hl
  · exact take_2 h l hl
  · exact take_3 h l
  · exact take_4 hN h h4 hk2 hS l hl
/-- what read leaves -/
def RdQ (E : Es) (P : Option Nr × Nat) (g : Nat) (q : Ending) (w' : World) : Prop := match P.1 with
  | some t1 => q = .returned .nilIface ∧ Rs w' g t1 P.2
  | none => (∃ x, q = .returned (FV x (EV E.o))) ∧ ∃ t', Rs w' g t' P.2
theorem RdQ.yes {E : Es} {P : Option Nr × Nat} {g : Nat} {w' : World} {t1 : Nr} {k : Nat} (e : P = (some t1, k)) (h : Rs w' g t1 k) : RdQ E P g (.returned .nilIface) w' := by
  subst e; exact ⟨rfl, h⟩
theorem RdQ.no {E : Es} {P : Option Nr × Nat} {g : Nat} {w' : World} {t1 : Nr} {k : Nat} (e : P = (none, k)) (h : Rs w' g t1 k) (x : ByteArray) : RdQ E P g (.returned (FV x (EV E.o))) w' := by
  subst e; exact ⟨⟨x, rfl⟩, t1, h⟩
/-- how long a text is -/
def szOf (v : Value) : Nat := match v with
  | .string x => x.size
  | _ => 0
set_option maxRecDepth 100000 in
set_option maxHeartbeats 8000000 in
theorem read_any {E : Es} {w : World} {g : Nat} {t : Nr} (hN : ∀ w', Below g w w' → Nw w' E) (h : Rs w g t 0) (hS : t.S.length ≤ 16) (s : ByteArray) (hs : s.size ≤ 140737488355328) : Calls Tryz.prog 36 #[.pointer (some ⟨g, 0, none⟩), .string s] w fun q w' => RdQ E (prs (s.size + 1) 0 t s) g q w' ∧ Below g w w' := by
  have HN := hid hN
  have HR := hid h
  have HT := hid hS
  have HSZ := hid hs
  clear hN h hS hs
  have HN := hid (fun (w1 : World) (b : Below g w w1) (w2 : World) (c : Below g w1 w2) => HN.out w2 (b.trans c))
  go_enter Tryz.func36, Tryz.ntmps36
  go_wp2
  go_loopw [1, 5, 6, 7] (fun v1 _ _ _ wr => ∃ (x : ByteArray) (f k : Nat) (t' : Nr), v1 = .string x ∧ Hid (x.size < f ∧ k + x.size ≤ s.size ∧ t'.S.length ≤ 16 ∧ s.size ≤ 140737488355328) ∧ Hid (prs (s.size + 1) 0 t s = prs f k t' x) ∧ Hid (Rs wr g t' k) ∧ Hid (Below g w wr)) (fun v1 _ _ _ _ => szOf v1)
  case atStart => exact ⟨s, s.size + 1, 0, t, rfl, ⟨by omega, by omega, HT.out, HSZ.out⟩, rfl, HR, Below.refl _ _⟩
  case round =>
    obtain ⟨x, f, k, t', rfl, hf, hP, hR, hB⟩ := hrel
    have c4 : wr.cell? ⟨g, 4, none⟩ = some (.int .i64 (k : Int)) := by
      obtain ⟨v, hb, _, _⟩ := hR.out
      exact hb.c4
    have iC := cut_any x (by have := hf.out; omega) wr
    obtain ⟨f', rfl⟩ : ∃ f', f = f' + 1 := ⟨f - 1, by have := hf.out; omega⟩
    by_cases he : eol x < x.size
    · have hx0 : ¬ x = ByteArray.empty := fun e => by subst e; exact Nat.not_lt_zero _ he
      have hx1 : 0 < x.size := by omega
      have hx2 : (0 : Int) < (x.size : Int) := by omega
      rw [decide_eq_true he] at iC
      have HE := hid he
      have iT := hid (fun (W : World) (b : Below wr.heap.size wr W) => take_any (HN.out W (hB.out.trans (b.mono (Nat.le_of_lt hR.out.lt)))) (hR.out.below b) (by have := hf.out; omega) hf.out.2.2.1 (cutL x) (by have := cutL_size x; have := hf.out; omega))
      clear he
      go_upto_region 3 with (go_at_call 57; (refine iC.mono ?_); rintro q w1 ⟨rfl, b1⟩)
      have i3 := iT.out w1 b1
      have HB1 := hid b1
      clear iT iC b1
      cases hst : stp k t' (cutL x) with
      | none =>
        rw [show TkQ t' k (cutL x) g = fun q w' => q = .returned (.bool false) ∧ ∃ t'_1, Rs w' g t'_1 k ∧ ∀ t1, stp k t' (cutL x) = some t1 → t'_1 = t1 by unfold TkQ; rw [hst]; rfl] at i3
        have HZ : Hid (prs (f' + 1) k t' x = (none, k)) := by unfold Hid prs; rw [if_pos HE.out, hst]
        clear hst
        go_upto_region 4 with (go_at_call 58; (refine i3.mono ?_); rintro q w2 ⟨⟨rfl, t2, hR2, hT2⟩, b2⟩)
        have HB2 := hid (hB.out.trans ((HB1.out.mono (Nat.le_of_lt hR.out.lt)).trans b2))
        have hR2 := hid hR2
        clear i3 b2 hT2 c4
        have gl := hR2.out.lt
        obtain ⟨m, hm⟩ : ∃ m, k + 1 = m := ⟨_, rfl⟩
        have hkk := hf.out
        have iL : ∀ W', Below w2.heap.size w2 W' → Calls Tryz.prog 37 #[.pointer (some ⟨g, 0, none⟩)] W' fun q w' => q = .returned (.int .i64 (m : Int)) ∧ w' = W' := fun W' b => by
          obtain ⟨v, hb, _, _⟩ := hR2.out
          rw [← hm]
          exact line_any (hb.below b) (by omega)
        have iI : ∀ W', Below w2.heap.size w2 W' → Calls Tryz.prog 53 #[.int .i64 (m : Int)] W' fun r w' => r = .returned (.string (iT (m : Int))) ∧ Below W'.heap.size W' w' := fun W' b => itoa_any (HN.out W' (HB2.out.trans (b.mono (Nat.le_of_lt gl))) W' (Below.refl _ _)) (m : Int) (by omega) (by omega)
        have cO : ∀ W', Below w2.heap.size w2 W' → W'.cell? ⟨4, 0, none⟩ = some (EV E.o) := fun W' b => (HN.out W' (HB2.out.trans (b.mono (Nat.le_of_lt gl))) W' (Below.refl _ _)).vo
        have sz := iT_size (m : Int) (by omega) (by omega)
        have ad : ¬ 9223372036854775807 < (⟨#[108, 105, 110, 101, 32]⟩ : ByteArray).size + (iT (m : Int)).size := by show ¬ _ < 5 + (iT (m : Int)).size; omega
        have ad2 : ¬ 9223372036854775807 < 5 + (iT (m : Int)).size := by omega
        have d0 := cO w2 (Below.refl _ _)
        have HM := hid hm
        have GL := hid gl
        unfold EV at *
        clear hm hkk gl sz
        go_region_held3 (fun V => V.cell? ⟨4, 0, none⟩ = some (.iface 242 (.pointer (some E.o)))) (first | exact d0 | exact d1) (first
          | (go_at_call 37; (refine (iL _ (bw_drew _)).mono ?_); rintro q w7 ⟨rfl, rfl⟩)
          | (go_at_call 53; (refine (iI _ (bw_drew _)).mono ?_); rintro q w8 ⟨rfl, b8⟩; have b9 := (bw_drew w2).trans b8; have d1 := cO w8 b9))
        go_wp2
        go_ret
        exact ⟨RdQ.no (hP.out.trans HZ.out) (hR2.out.below b9) _, HB2.out.trans (b9.mono (Nat.le_of_lt GL.out))⟩
      | some t1 =>
        rw [show TkQ t' k (cutL x) g = fun q w' => q = .returned (.bool true) ∧ ∃ t'_1, Rs w' g t'_1 k ∧ ∀ t1, stp k t' (cutL x) = some t1 → t'_1 = t1 by unfold TkQ; rw [hst]; rfl] at i3
        have HZ : Hid (prs (f' + 1) k t' x = prs f' (k + 1) t1 (cutR x)) := by unfold Hid; rw [prs, if_pos HE.out, hst]
        have HS := hid hst
        have HF := hid (stp_few hst hf.out.2.2.1)
        clear hst
        go_upto_region 5 with (go_at_call 58; (refine i3.mono ?_); rintro q w2 ⟨⟨rfl, t2, hR2, hT2⟩, b2⟩)
        obtain rfl := hT2 _ HS.out
        have HB2 := hid (hB.out.trans ((HB1.out.mono (Nat.le_of_lt hR.out.lt)).trans b2))
        clear i3 b2 hT2 c4
        obtain ⟨v, hb, ho, hv⟩ := hR2
        have c4 := hb.c4
        have f4 := hb.fz 4
        have R5 : Hid (Rs (w2.setCell ⟨g, 4, none⟩ (.int .i64 ((k + 1 : Nat) : Int))) g t2 (k + 1)) := hid ⟨v, hb.set4 (k + 1), own_set 4 ho hv _, hv⟩
        have B5 := hid (HB2.out.setCell (p := ⟨g, 4, none⟩) (Nat.le_refl _) (.int .i64 ((k + 1 : Nat) : Int)))
        have t9 : IntKind.i64.wrap ((k : Int) + 1) = ((k + 1 : Nat) : Int) := by have := hf.out; rw [IntKind.wrap_i64]; omega
        clear hb ho hv
        go_wp2
        have hc := cutR_size HE.out
        have hff := hf.out
        exact ⟨⟨cutR x, f', k + 1, t2, rfl, ⟨by omega, by omega, HF.out, hff.2.2.2⟩, hP.out.trans HZ.out, R5, B5⟩, by show (cutR x).size < x.size; omega⟩
    · have hEq : eol x = x.size := Nat.le_antisymm (eol_le x) (by omega)
      rw [decide_eq_false he] at iC
      have HE := hid he
      by_cases hx : x = ByteArray.empty
      · subst hx
        by_cases h4 : 4 ≤ k
        · have h4' : (4 : Int) ≤ (k : Int) := by omega
          have HZ : Hid (prs (f' + 1) k t' ByteArray.empty = (some t', k)) := by unfold Hid; rw [prs, if_neg he, if_pos ⟨rfl, h4⟩]
          clear he hEq iC
          go_wp2
          go_ret
          exact ⟨RdQ.yes (hP.out.trans HZ.out) hR.out, hB.out⟩
        · have h4' : (k : Int) < 4 := by omega
          have HZ : Hid (prs (f' + 1) k t' ByteArray.empty = (none, k)) := by unfold Hid; rw [prs, if_neg he, if_neg (fun e => h4 e.2)]
          clear he hEq h4
          go_upto_region 4 with (go_at_call 57; (refine iC.mono ?_); rintro q w1 ⟨rfl, b1⟩)
          have HB1 := hid (hB.out.trans (b1.mono (Nat.le_of_lt hR.out.lt)))
          have hR1 := hid (hR.out.below b1)
          clear iC b1 c4
          have gl := hR1.out.lt
          obtain ⟨m, hm⟩ : ∃ m, k + 1 = m := ⟨_, rfl⟩
          have hkk := hf.out
          have iL : ∀ W', Below w1.heap.size w1 W' → Calls Tryz.prog 37 #[.pointer (some ⟨g, 0, none⟩)] W' fun q w' => q = .returned (.int .i64 (m : Int)) ∧ w' = W' := fun W' b => by
            obtain ⟨v, hb, _, _⟩ := hR1.out
            rw [← hm]
            exact line_any (hb.below b) (by omega)
          have iI : ∀ W', Below w1.heap.size w1 W' → Calls Tryz.prog 53 #[.int .i64 (m : Int)] W' fun r w' => r = .returned (.string (iT (m : Int))) ∧ Below W'.heap.size W' w' := fun W' b => itoa_any (HN.out W' (HB1.out.trans (b.mono (Nat.le_of_lt gl))) W' (Below.refl _ _)) (m : Int) (by omega) (by omega)
          have cO : ∀ W', Below w1.heap.size w1 W' → W'.cell? ⟨4, 0, none⟩ = some (EV E.o) := fun W' b => (HN.out W' (HB1.out.trans (b.mono (Nat.le_of_lt gl))) W' (Below.refl _ _)).vo
          have sz := iT_size (m : Int) (by omega) (by omega)
          have ad : ¬ 9223372036854775807 < (⟨#[108, 105, 110, 101, 32]⟩ : ByteArray).size + (iT (m : Int)).size := by show ¬ _ < 5 + (iT (m : Int)).size; omega
          have ad2 : ¬ 9223372036854775807 < 5 + (iT (m : Int)).size := by omega
          have d0 := cO w1 (Below.refl _ _)
          have HM := hid hm
          have GL := hid gl
          unfold EV at *
          clear hm hkk gl sz
          go_region_held3 (fun V => V.cell? ⟨4, 0, none⟩ = some (.iface 242 (.pointer (some E.o)))) (first | exact d0 | exact d1) (first
            | (go_at_call 37; (refine (iL _ (bw_drew _)).mono ?_); rintro q w7 ⟨rfl, rfl⟩)
            | (go_at_call 53; (refine (iI _ (bw_drew _)).mono ?_); rintro q w8 ⟨rfl, b8⟩; have b9 := (bw_drew w1).trans b8; have d1 := cO w8 b9))
          go_wp2
          go_ret
          exact ⟨RdQ.no (hP.out.trans HZ.out) (hR1.out.below b9) _, HB1.out.trans (b9.mono (Nat.le_of_lt GL.out))⟩
      · have hn0 : ¬ x.size = 0 := fun e => hx (by
          apply Go.WideShapes.bytes_inj
          have := dlen x
          rw [e] at this
          rw [List.length_eq_zero_iff.1 this]
          rfl)
        have HZ : Hid (prs (f' + 1) k t' x = (none, k)) := by unfold Hid; rw [prs, if_neg he, if_neg (fun e => hn0 e.1)]
        have hx1 : 0 < x.size := by omega
        clear he hEq hn0
        go_upto_region 4 with (go_at_call 57; (refine iC.mono ?_); rintro q w1 ⟨rfl, b1⟩)
        have HB1 := hid (hB.out.trans (b1.mono (Nat.le_of_lt hR.out.lt)))
        have hR1 := hid (hR.out.below b1)
        clear iC b1 c4
        have gl := hR1.out.lt
        obtain ⟨m, hm⟩ : ∃ m, k + 1 = m := ⟨_, rfl⟩
        have hkk := hf.out
        have iL : ∀ W', Below w1.heap.size w1 W' → Calls Tryz.prog 37 #[.pointer (some ⟨g, 0, none⟩)] W' fun q w' => q = .returned (.int .i64 (m : Int)) ∧ w' = W' := fun W' b => by
          obtain ⟨v, hb, _, _⟩ := hR1.out
          rw [← hm]
          exact line_any (hb.below b) (by omega)
        have iI : ∀ W', Below w1.heap.size w1 W' → Calls Tryz.prog 53 #[.int .i64 (m : Int)] W' fun r w' => r = .returned (.string (iT (m : Int))) ∧ Below W'.heap.size W' w' := fun W' b => itoa_any (HN.out W' (HB1.out.trans (b.mono (Nat.le_of_lt gl))) W' (Below.refl _ _)) (m : Int) (by omega) (by omega)
        have cO : ∀ W', Below w1.heap.size w1 W' → W'.cell? ⟨4, 0, none⟩ = some (EV E.o) := fun W' b => (HN.out W' (HB1.out.trans (b.mono (Nat.le_of_lt gl))) W' (Below.refl _ _)).vo
        have sz := iT_size (m : Int) (by omega) (by omega)
        have ad : ¬ 9223372036854775807 < (⟨#[108, 105, 110, 101, 32]⟩ : ByteArray).size + (iT (m : Int)).size := by show ¬ _ < 5 + (iT (m : Int)).size; omega
        have ad2 : ¬ 9223372036854775807 < 5 + (iT (m : Int)).size := by omega
        have d0 := cO w1 (Below.refl _ _)
        have HM := hid hm
        have GL := hid gl
        unfold EV at *
        clear hm hkk gl sz
        go_region_held3 (fun V => V.cell? ⟨4, 0, none⟩ = some (.iface 242 (.pointer (some E.o)))) (first | exact d0 | exact d1) (first
          | (go_at_call 37; (refine (iL _ (bw_drew _)).mono ?_); rintro q w7 ⟨rfl, rfl⟩)
          | (go_at_call 53; (refine (iI _ (bw_drew _)).mono ?_); rintro q w8 ⟨rfl, b8⟩; have b9 := (bw_drew w1).trans b8; have d1 := cO w8 b9))
        go_wp2
        go_ret
        exact ⟨RdQ.no (hP.out.trans HZ.out) (hR1.out.below b9) _, HB1.out.trans (b9.mono (Nat.le_of_lt GL.out))⟩
end Nt
end Go.Proofs.YtdbbemcddhgbcaaGreatDoor
