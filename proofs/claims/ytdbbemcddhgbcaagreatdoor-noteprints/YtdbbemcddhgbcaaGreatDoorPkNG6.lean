import Derived.Test.YtdbbemcddhgbcaaGreatDoorPkNG5
/- Layer 22: a note's reader: a whole text, in the program -/
namespace Go.Proofs.YtdbbemcddhgbcaaGreatDoor
open Go.RowKit Go.Shelf
namespace Nt
/-- a text is read line by line: what it tells, if it may be; how many lines may be -/
def prs : Nat → Nat → Nr → ByteArray → Option Nr × Nat
  | 0, k, _, _ => (none, k)
  | f + 1, k, t, s => if eol s < s.size then (match stp k t (cutL s) with | some t' => prs f (k + 1) t' (cutR s) | none => (none, k)) else if s.size = 0 ∧ 4 ≤ k then (some t, k) else (none, k)
theorem cutL_size (s : ByteArray) : (cutL s).size ≤ s.size := by
  unfold cutL
  split
  · rw [ByteArray.size_extract]; omega
  · exact Nat.zero_le _
theorem cutR_size {s : ByteArray} (h : eol s < s.size) : (cutR s).size + 1 ≤ s.size := by
  unfold cutR
  rw [if_pos h, ByteArray.size_extract]; omega
theorem stp_few {k : Nat} {t t' : Nr} {l : ByteArray} (h : stp k t l = some t') (hS : t.S.length ≤ 16) : t'.S.length ≤ 16 := by
  unfold stp at h
  split at h
  · split at h
    · cases h; exact hS
    · cases h
  · split at h
    · split at h
      · cases h; exact hS
      · cases h
    · split at h
      · split at h
        · cases h; exact hS
        · cases h
      · split at h
        · split at h
          · cases h; exact hS
          · cases h
        · split at h
          · rename_i h9; cases h; exact h9.2.1
          · cases h
theorem take_any {E : Es} {w : World} {g k : Nat} {t : Nr} (hN : ∀ w', Below g w w' → Nw w' E) (h : Rs w g t k) (hk2 : k ≤ 9223372036854775806) (hS : t.S.length ≤ 16) (l : ByteArray) (hl : l.size ≤ 140737488355328) : Calls Tryz.prog 58 #[.pointer (some ⟨g, 0, none⟩), .string l] w fun q w' => TkQ t k l g q w' ∧ Below g w w' := by
  rcases (show k = 0 ∨ k = 1 ∨ k = 2 ∨ k = 3 ∨ 4 ≤ k by omega) with rfl | rfl | rfl | rfl | h4
  · exact take_0 h l
  · exact take_1 (hN w (Below.refl _ _)) h l hl
  · exact take_2 h l hl
  · exact take_3 h l
  · exact take_4 hN h h4 hk2 hS l hl
/-- what read leaves -/
def RdQ (E : Es) (P : Option Nr × Nat) (g : Nat) (q : Ending) (w' : World) : Prop := match P.1 with
  | some t1 => q = .returned .nilIface ∧ Rs w' g t1 P.2
  | none => (∃ x, q = .returned (FV x (EV E.o))) ∧ ∃ t', Rs w' g t' P.2
theorem RdQ.yes {E : Es} {P : Option Nr × Nat} {g : Nat} {w' : World} {t1 : Nr} {k : Nat} (e : P = (some t1, k)) (h : Rs w' g t1 k) : RdQ E P g (.returned .nilIface) w' := by
  subst e; exact ⟨rfl, h⟩
theorem RdQ.no {E : Es} {P : Option Nr × Nat} {g : Nat} {w' : World} {t1 : Nr} {k : Nat} (e : P = (none, k)) (h : Rs w' g t1 k) (x : ByteArray) : RdQ E P g (.returned (FV x (EV E.o))) w' := by
  subst e; exact ⟨⟨x, rfl⟩, t1, h⟩
/-- how long a text is -/
def szOf (v : Value) : Nat := match v with
  | .string x => x.size
  | _ => 0
set_option maxRecDepth 100000 in
set_option maxHeartbeats 8000000 in
theorem read_any {E : Es} {w : World} {g : Nat} {t : Nr} (hN : ∀ w', Below g w w' → Nw w' E) (h : Rs w g t 0) (hS : t.S.length ≤ 16) (s : ByteArray) (hs : s.size ≤ 140737488355328) : Calls Tryz.prog 36 #[.pointer (some ⟨g, 0, none⟩), .string s] w fun q w' => RdQ E (prs (s.size + 1) 0 t s) g q w' ∧ Below g w w' := by
  have HN := hid hN
  have HR := hid h
  have HT := hid hS
  have HSZ := hid hs
  clear hN h hS hs
  have HN := hid (fun (w1 : World) (b : Below g w w1) (w2 : World) (c : Below g w1 w2) => HN.out w2 (b.trans c))
  go_enter Tryz.func36, Tryz.ntmps36
  go_wp2
  go_loopw [1, 5, 6, 7] (fun v1 _ _ _ wr => ∃ (x : ByteArray) (f k : Nat) (t' : Nr), v1 = .string x ∧ Hid (x.size < f ∧ k + x.size ≤ s.size ∧ t'.S.length ≤ 16 ∧ s.size ≤ 140737488355328) ∧ Hid (prs (s.size + 1) 0 t s = prs f k t' x) ∧ Hid (Rs wr g t' k) ∧ Hid (Below g w wr)) (fun v1 _ _ _ _ => szOf v1)
  case atStart => exact ⟨s, s.size + 1, 0, t, rfl, ⟨by omega, by omega, HT.out, HSZ.out⟩, rfl, HR, Below.refl _ _⟩
  case round =>
    obtain ⟨x, f, k, t', rfl, hf, hP, hR, hB⟩ := hrel
    have c4 : wr.cell? ⟨g, 4, none⟩ = some (.int .i64 (k : Int)) := by
      obtain ⟨v, hb, _, _⟩ := hR.out
      exact hb.c4
    have iC := cut_any x (by have := hf.out; omega) wr
    obtain ⟨f', rfl⟩ : ∃ f', f = f' + 1 := ⟨f - 1, by have := hf.out; omega⟩
    by_cases he : eol x < x.size
    · have hx0 : ¬ x = ByteArray.empty := fun e => by subst e; exact Nat.not_lt_zero _ he
      have hx1 : 0 < x.size := by omega
      have hx2 : (0 : Int) < (x.size : Int) := by omega
      rw [decide_eq_true he] at iC
      have HE := hid he
      have iT := hid (fun (W : World) (b : Below wr.heap.size wr W) => take_any (HN.out W (hB.out.trans (b.mono (Nat.le_of_lt hR.out.lt)))) (hR.out.below b) (by have := hf.out; omega) hf.out.2.2.1 (cutL x) (by have := cutL_size x; have := hf.out; omega))
      clear he
      go_upto_region 3 with (go_at_call 57; (refine iC.mono ?_); rintro q w1 ⟨rfl, b1⟩)
      have i3 := iT.out w1 b1
      have HB1 := hid b1
      clear iT iC b1
      cases hst : stp k t' (cutL x) with
      | none =>
        rw [show TkQ t' k (cutL x) g = fun q w' => q = .returned (.bool false) ∧ ∃ t'_1, Rs w' g t'_1 k ∧ ∀ t1, stp k t' (cutL x) = some t1 → t'_1 = t1 by unfold TkQ; rw [hst]; rfl] at i3
        have HZ : Hid (prs (f' + 1) k t' x = (none, k)) := by unfold Hid prs; rw [if_pos HE.out, hst]
        clear hst
        go_upto_region 4 with (go_at_call 58; (refine i3.mono ?_); rintro q w2 ⟨⟨rfl, t2, hR2, hT2⟩, b2⟩)
        have HB2 := hid (hB.out.trans ((HB1.out.mono (Nat.le_of_lt hR.out.lt)).trans b2))
        have hR2 := hid hR2
        clear i3 b2 hT2 c4
        have gl := hR2.out.lt
        obtain ⟨m, hm⟩ : ∃ m, k + 1 = m := ⟨_, rfl⟩
        have hkk := hf.out
        have iL : ∀ W', Below w2.heap.size w2 W' → Calls Tryz.prog 37 #[.pointer (some ⟨g, 0, none⟩)] W' fun q w' => q = .returned (.int .i64 (m : Int)) ∧ w' = W' := fun W' b => by
          obtain ⟨v, hb, _, _⟩ := hR2.out
          rw [← hm]
          exact line_any (hb.below b) (by omega)
        have iI : ∀ W', Below w2.heap.size w2 W' → Calls Tryz.prog 53 #[.int .i64 (m : Int)] W' fun r w' => r = .returned (.string (iT (m : Int))) ∧ Below W'.heap.size W' w' := fun W' b => itoa_any (HN.out W' (HB2.out.trans (b.mono (Nat.le_of_lt gl))) W' (Below.refl _ _)) (m : Int) (by omega) (by omega)
        have cO : ∀ W', Below w2.heap.size w2 W' → W'.cell? ⟨4, 0, none⟩ = some (EV E.o) := fun W' b => (HN.out W' (HB2.out.trans (b.mono (Nat.le_of_lt gl))) W' (Below.refl _ _)).vo
        have sz := iT_size (m : Int) (by omega) (by omega)
        have ad : ¬ 9223372036854775807 < (⟨#[108, 105, 110, 101, 32]⟩ : ByteArray).size + (iT (m : Int)).size := by show ¬ _ < 5 + (iT (m : Int)).size; omega
        have ad2 : ¬ 9223372036854775807 < 5 + (iT (m : Int)).size := by omega
        have d0 := cO w2 (Below.refl _ _)
        have HM := hid hm
        have GL := hid gl
        unfold EV at *
        clear hm hkk gl sz
        go_region_held3 (fun V => V.cell? ⟨4, 0, none⟩ = some (.iface 242 (.pointer (some E.o)))) (first | exact d0 | exact d1) (first
          | (go_at_call 37; (refine (iL _ (bw_drew _)).mono ?_); rintro q w7 ⟨rfl, rfl⟩)
          | (go_at_call 53; (refine (iI _ (bw_drew _)).mono ?_); rintro q w8 ⟨rfl, b8⟩; have b9 := (bw_drew w2).trans b8; have d1 := cO w8 b9))
        go_wp2
        go_ret
        exact ⟨RdQ.no (hP.out.trans HZ.out) (hR2.out.below b9) _, HB2.out.trans (b9.mono (Nat.le_of_lt GL.out))⟩
      | some t1 =>
        rw [show TkQ t' k (cutL x) g = fun q w' => q = .returned (.bool true) ∧ ∃ t'_1, Rs w' g t'_1 k ∧ ∀ t1, stp k t' (cutL x) = some t1 → t'_1 = t1 by unfold TkQ; rw [hst]; rfl] at i3
        have HZ : Hid (prs (f' + 1) k t' x = prs f' (k + 1) t1 (cutR x)) := by unfold Hid; rw [prs, if_pos HE.out, hst]
        have HS := hid hst
        have HF := hid (stp_few hst hf.out.2.2.1)
        clear hst
        go_upto_region 5 with (go_at_call 58; (refine i3.mono ?_); rintro q w2 ⟨⟨rfl, t2, hR2, hT2⟩, b2⟩)
        obtain rfl := hT2 _ HS.out
        have HB2 := hid (hB.out.trans ((HB1.out.mono (Nat.le_of_lt hR.out.lt)).trans b2))
        clear i3 b2 hT2 c4
        obtain ⟨v, hb, ho, hv⟩ := hR2
        have c4 := hb.c4
        have f4 := hb.fz 4
        have R5 : Hid (Rs (w2.setCell ⟨g, 4, none⟩ (.int .i64 ((k + 1 : Nat) : Int))) g t2 (k + 1)) := hid ⟨v, hb.set4 (k + 1), own_set 4 ho hv _, hv⟩
        have B5 := hid (HB2.out.setCell (p := ⟨g, 4, none⟩) (Nat.le_refl _) (.int .i64 ((k + 1 : Nat) : Int)))
        have t9 : IntKind.i64.wrap ((k : Int) + 1) = ((k + 1 : Nat) : Int) := by have := hf.out; rw [IntKind.wrap_i64]; omega
        clear hb ho hv
        go_wp2
        have hc := cutR_size HE.out
        have hff := hf.out
        exact ⟨⟨cutR x, f', k + 1, t2, rfl, ⟨by omega, by omega, HF.out, hff.2.2.2⟩, hP.out.trans HZ.out, R5, B5⟩, by show (cutR x).size < x.size; omega⟩
    · have hEq : eol x = x.size := Nat.le_antisymm (eol_le x) (by omega)
      rw [decide_eq_false he] at iC
      have HE := hid he
      by_cases hx : x = ByteArray.empty
      · subst hx
        by_cases h4 : 4 ≤ k
        · have h4' : (4 : Int) ≤ (k : Int) := by omega
          have HZ : Hid (prs (f' + 1) k t' ByteArray.empty = (some t', k)) := by unfold Hid; rw [prs, if_neg he, if_pos ⟨rfl, h4⟩]
          clear he hEq iC
          go_wp2
          go_ret
          exact ⟨RdQ.yes (hP.out.trans HZ.out) hR.out, hB.out⟩
        · have h4' : (k : Int) < 4 := by omega
          have HZ : Hid (prs (f' + 1) k t' ByteArray.empty = (none, k)) := by unfold Hid; rw [prs, if_neg he, if_neg (fun e => h4 e.2)]
          clear he hEq h4
          go_upto_region 4 with (go_at_call 57; (refine iC.mono ?_); rintro q w1 ⟨rfl, b1⟩)
          have HB1 := hid (hB.out.trans (b1.mono (Nat.le_of_lt hR.out.lt)))
          have hR1 := hid (hR.out.below b1)
          clear iC b1 c4
          have gl := hR1.out.lt
          obtain ⟨m, hm⟩ : ∃ m, k + 1 = m := ⟨_, rfl⟩
          have hkk := hf.out
          have iL : ∀ W', Below w1.heap.size w1 W' → Calls Tryz.prog 37 #[.pointer (some ⟨g, 0, none⟩)] W' fun q w' => q = .returned (.int .i64 (m : Int)) ∧ w' = W' := fun W' b => by
            obtain ⟨v, hb, _, _⟩ := hR1.out
            rw [← hm]
            exact line_any (hb.below b) (by omega)
          have iI : ∀ W', Below w1.heap.size w1 W' → Calls Tryz.prog 53 #[.int .i64 (m : Int)] W' fun r w' => r = .returned (.string (iT (m : Int))) ∧ Below W'.heap.size W' w' := fun W' b => itoa_any (HN.out W' (HB1.out.trans (b.mono (Nat.le_of_lt gl))) W' (Below.refl _ _)) (m : Int) (by omega) (by omega)
          have cO : ∀ W', Below w1.heap.size w1 W' → W'.cell? ⟨4, 0, none⟩ = some (EV E.o) := fun W' b => (HN.out W' (HB1.out.trans (b.mono (Nat.le_of_lt gl))) W' (Below.refl _ _)).vo
          have sz := iT_size (m : Int) (by omega) (by omega)
          have ad : ¬ 9223372036854775807 < (⟨#[108, 105, 110, 101, 32]⟩ : ByteArray).size + (iT (m : Int)).size := by show ¬ _ < 5 + (iT (m : Int)).size; omega
          have ad2 : ¬ 9223372036854775807 < 5 + (iT (m : Int)).size := by omega
          have d0 := cO w1 (Below.refl _ _)
          have HM := hid hm
          have GL := hid gl
          unfold EV at *
          clear hm hkk gl sz
          go_region_held3 (fun V => V.cell? ⟨4, 0, none⟩ = some (.iface 242 (.pointer (some E.o)))) (first | exact d0 | exact d1) (first
            | (go_at_call 37; (refine (iL _ (bw_drew _)).mono ?_); rintro q w7 ⟨rfl, rfl⟩)
            | (go_at_call 53; (refine (iI _ (bw_drew _)).mono ?_); rintro q w8 ⟨rfl, b8⟩; have b9 := (bw_drew w1).trans b8; have d1 := cO w8 b9))
          go_wp2
          go_ret
          exact ⟨RdQ.no (hP.out.trans HZ.out) (hR1.out.below b9) _, HB1.out.trans (b9.mono (Nat.le_of_lt GL.out))⟩
      · have hn0 : ¬ x.size = 0 := fun e => hx (by
          apply Go.WideShapes.bytes_inj
          have := dlen x
          rw [e] at this
          rw [List.length_eq_zero_iff.1 this]
          rfl)
        have HZ : Hid (prs (f' + 1) k t' x = (none, k)) := by unfold Hid; rw [prs, if_neg he, if_neg (fun e => hn0 e.1)]
        have hx1 : 0 < x.size := by omega
        clear he hEq hn0
        go_upto_region 4 with (go_at_call 57; (refine iC.mono ?_); rintro q w1 ⟨rfl, b1⟩)
        have HB1 := hid (hB.out.trans (b1.mono (Nat.le_of_lt hR.out.lt)))
        have hR1 := hid (hR.out.below b1)
        clear iC b1 c4
        have gl := hR1.out.lt
        obtain ⟨m, hm⟩ : ∃ m, k + 1 = m := ⟨_, rfl⟩
        have hkk := hf.out
        have iL : ∀ W', Below w1.heap.size w1 W' → Calls Tryz.prog 37 #[.pointer (some ⟨g, 0, none⟩)] W' fun q w' => q = .returned (.int .i64 (m : Int)) ∧ w' = W' := fun W' b => by
          obtain ⟨v, hb, _, _⟩ := hR1.out
          rw [← hm]
          exact line_any (hb.below b) (by omega)
        have iI : ∀ W', Below w1.heap.size w1 W' → Calls Tryz.prog 53 #[.int .i64 (m : Int)] W' fun r w' => r = .returned (.string (iT (m : Int))) ∧ Below W'.heap.size W' w' := fun W' b => itoa_any (HN.out W' (HB1.out.trans (b.mono (Nat.le_of_lt gl))) W' (Below.refl _ _)) (m : Int) (by omega) (by omega)
        have cO : ∀ W', Below w1.heap.size w1 W' → W'.cell? ⟨4, 0, none⟩ = some (EV E.o) := fun W' b => (HN.out W' (HB1.out.trans (b.mono (Nat.le_of_lt gl))) W' (Below.refl _ _)).vo
        have sz := iT_size (m : Int) (by omega) (by omega)
        have ad : ¬ 9223372036854775807 < (⟨#[108, 105, 110, 101, 32]⟩ : ByteArray).size + (iT (m : Int)).size := by show ¬ _ < 5 + (iT (m : Int)).size; omega
        have ad2 : ¬ 9223372036854775807 < 5 + (iT (m : Int)).size := by omega
        have d0 := cO w1 (Below.refl _ _)
        have HM := hid hm
        have GL := hid gl
        unfold EV at *
        clear hm hkk gl sz
        go_region_held3 (fun V => V.cell? ⟨4, 0, none⟩ = some (.iface 242 (.pointer (some E.o)))) (first | exact d0 | exact d1) (first
          | (go_at_call 37; (refine (iL _ (bw_drew _)).mono ?_); rintro q w7 ⟨rfl, rfl⟩)
          | (go_at_call 53; (refine (iI _ (bw_drew _)).mono ?_); rintro q w8 ⟨rfl, b8⟩; have b9 := (bw_drew w1).trans b8; have d1 := cO w8 b9))
        go_wp2
        go_ret
        exact ⟨RdQ.no (hP.out.trans HZ.out) (hR1.out.below b9) _, HB1.out.trans (b9.mono (Nat.le_of_lt GL.out))⟩
end Nt
end Go.Proofs.YtdbbemcddhgbcaaGreatDoor

/- Layer 22: Parse, in the program -/
namespace Go.Proofs.YtdbbemcddhgbcaaGreatDoor
open Go.RowKit Go.Shelf
theorem results_row_tmp2_22 {P : Program} {fn : Func} {p u u2 : Tmp} {ty : TypeId} (h : fn.results = #[.cell p ty, .tmp u, .tmp u2]) (tmps : Array Value) (w : World) (g : Nat) (t : TypeId) (cs : Array Value) (fr : Nat × Nat) (d : TypeDesc)
    (hp : tmps.getD p undef = .pointer (some ⟨g, 0, none⟩)) (hg : w.heap[g]? = some (.cells cs t fr))
    (hu : P.underlying ty = some d) (hd : (match d with | .struct _ | .array _ _ => true | _ => false) = true) (hi : (P.info? ty).map (·.size) = some cs.size) :
    (results fn tmps).run P w = .ok (.tuple #[.agg cs, tmps.getD u undef, tmps.getD u2 undef]) w := by
  have e : (results fn tmps).run P w = ((asAddr (tmps.getD p undef)).run P w).andThen fun a w₁ => ((loadVar ty a).run P w₁).andThen fun v w₂ => .ok (.tuple #[v, tmps.getD u undef, tmps.getD u2 undef]) w₂ := by
    simp only [results, h]
    simp [Sem.run_bind, Result.andThen]
  rw [e, hp]
  simp [asAddr, run_loadVar_row w g t ty cs fr d hg hu hd hi, Result.andThen]
namespace Nt
def nr0 : Nr := ⟨⟨#[]⟩, 0, ⟨#[]⟩, []⟩
/-- what Parse answers -/
def psA (s : ByteArray) : Option Nr × Nat := prs (s.size + 1) 0 nr0 s
def PsQ (B : Nat) (P : Option Nr × Nat) (q : Ending) (w' : World) : Prop := match P.1 with
  | some t1 => ∃ v, q = .returned (.tuple #[nv t1.O t1.z t1.R v, .int .i64 0, .int .i64 0]) ∧ Wz.OwnM 2 w' v t1.S.length (sgs t1.S) ∧ ∀ k, v.ownBlock = some k → B ≤ k
  | none => q = .returned (.tuple #[nv ⟨#[]⟩ 0 ⟨#[]⟩ (.slice none 0 0), .int .i64 220, .int .i64 ((P.2 : Int) + 1)])
theorem PsQ.no {B k : Nat} {q : Ending} {w' : World} (h : q = .returned (.tuple #[nv ⟨#[]⟩ 0 ⟨#[]⟩ (.slice none 0 0), .int .i64 220, .int .i64 ((k : Int) + 1)])) : PsQ B (none, k) q w' := h
theorem prs_le : ∀ (f k : Nat) (t : Nr) (s : ByteArray), (prs f k t s).2 ≤ k + s.size
  | 0, k, t, s => by unfold prs; exact Nat.le_add_right _ _
  | f + 1, k, t, s => by
    unfold prs
    split
    · rename_i h
      split
      · have h1 := prs_le f (k + 1) (by assumption) (cutR s)
        have h2 := cutR_size h
        omega
      · show k ≤ _; omega
    · split
      · show k ≤ _; omega
      · show k ≤ _; omega
set_option maxRecDepth 100000 in
set_option maxHeartbeats 8000000 in
theorem parse_any {E : Es} {w : World} (hN : Nw w E) (s : ByteArray) (hs : s.size ≤ 140737488355328) : Calls Tryz.prog 16 #[.string s] w fun q w' => PsQ w.heap.size (psA s) q w' ∧ Below w.heap.size w w' := by
  have b0 := (Below.refl w.heap.size w).alloc (Nat.le_refl _) (.cells #[.string ⟨#[]⟩, .int .i64 0, .string ⟨#[]⟩, .slice none 0 0] 26)
  have x0 := Bx.new w ⟨#[]⟩ 0 ⟨#[]⟩ (.slice none 0 0)
  obtain ⟨W, hW⟩ : ∃ W, w.alloc (.cells #[.string ⟨#[]⟩, .int .i64 0, .string ⟨#[]⟩, .slice none 0 0] 26) = W := ⟨_, rfl⟩
  have hz : W.heap.size = w.heap.size + 1 := by rw [← hW, size_alloc]
  rw [hW] at b0 x0
  have b1 := (Below.refl W.heap.size W).alloc (Nat.le_refl _) (.cells #[.string ⟨#[]⟩, .int .i64 0, .string ⟨#[]⟩, .slice none 0 0, .int .i64 0] 66)
  have r1 : Rb (W.alloc (.cells #[.string ⟨#[]⟩, .int .i64 0, .string ⟨#[]⟩, .slice none 0 0, .int .i64 0] 66)) W.heap.size nr0 (.slice none 0 0) 0 := heap_alloc_new W _
  have HW := hid hW
  have HZ := hid hz
  have HN := hid hN
  have HB0 := hid b0
  have HX0 := hid x0
  clear hW hz hN b0 x0
  have HL := hid (prs_le (s.size + 1) 0 nr0 s)
  have e9 : prs (s.size + 1) 0 nr0 s = psA s := rfl
  obtain ⟨⟨o, k⟩, hP⟩ : ∃ P, psA s = P := ⟨_, rfl⟩
  unfold Hid at HL
  rw [e9, hP] at HL
  rw [hP]
  rw [hP] at e9
  have HL := hid HL
  have HP := hid e9
  clear hP e9
  obtain ⟨u, hu⟩ : ∃ u, w.heap.size = u := ⟨_, rfl⟩
  have HU := hid hu
  rw [hu]
  clear hu
  go_enter Tryz.func16, Tryz.ntmps16
  go_upto_region 1 with fail
  rw [HW.out]
  rw [HU.out]
  go_upto_region 2 with fail
  obtain ⟨V, hV⟩ : ∃ V, W.alloc (.cells #[.string ⟨#[]⟩, .int .i64 0, .string ⟨#[]⟩, .slice none 0 0, .int .i64 0] 66) = V := ⟨_, rfl⟩
  rw [hV] at b1 r1 ⊢
  obtain ⟨g, hg⟩ : ∃ g, W.heap.size = g := ⟨_, rfl⟩
  rw [hg] at r1 ⊢
  have hBV : Below g W V := b1.mono (by omega)
  have HB1 := hid hBV
  have hw1 : w.heap.size < g := by have := HZ.out; omega
  have iR := read_any (E := E) (w := V) (g := g) (t := nr0) (fun w' b => (HN.out.below HB0.out).below ((b1).trans (b.mono (by omega)))) ⟨_, r1, Wz.OwnM.nil 2 _, fun q hq => by cases hq⟩ (Nat.zero_le _) s hs
  rw [HP.out] at iR
  have HG := hid hg
  have HV := hid r1.lt
  have HS := hid hs
  clear b1 r1 hV hg hBV hs
  rw [HU.out] at hw1
  have HUG := hid hw1
  have HX : Hid (∀ w', Below g V w' → Bx w' u ⟨#[]⟩ 0 ⟨#[]⟩ (.slice none 0 0)) := fun w' b => by
    have x1 := HX0.out
    rw [HU.out] at x1
    exact x1.kept ((b.block u HUG.out).trans (HB1.out.block u HUG.out))
  have HBW : Hid (∀ w', Below g V w' → Below u w w') := fun w' b => by
    have b0 := HB0.out
    rw [HU.out] at b0
    exact b0.trans ((HB1.out.trans b).mono (Nat.le_of_lt HUG.out))
  have HNV : Hid (∀ w', Below g V w' → Nw w' E) := fun w' b => HN.out.below (by
    have b0 := HBW.out w' b
    rw [← HU.out] at b0
    exact b0)
  clear hw1
  cases o with
  | some t1 =>
    obtain ⟨tO, tz, tR, tS⟩ := t1
    go_upto_region 5 with (go_at_call 36; (refine iR.mono ?_); rintro q w1 ⟨⟨rfl, v, hr, ho, hv⟩, b1⟩; have x1 := hid (HX.out w1 b1); have B1 := hid b1)
    obtain ⟨a', c', rfl, -, -⟩ := ho.shape
    have p0 := hr.c0
    have p1 := hr.c1
    have p2 := hr.c2
    have p3 := hr.c3
    have HO := hid ho
    have HVV := hid hv
    have HLT := hid hr.lt
    clear hr ho hv iR b1
    go_wp2_with ((with_reducible show wpList _ _ _ (Oper.mk _ (Op.store 26 _ _) _ _ _ _ :: _) _ _); go_must (refine wpList_store_row rfl 26 _ _ rfl u _ rfl rfl 26 _ x1.out (sizeNt22 _ _ _ _) rfl (oneNt22 _ _ _ _ _ _) ?_))
    refine bodyPost_ret (results_row_tmp2_22 rfl _ _ u 26 _ (0, 0) _ rfl (setRow_heap _ _ _ _ _ _ x1.out) Tryz.underlying26 rfl (sizeNt22 _ _ _ _)) rfl ⟨⟨_, rfl, ?_, ?_⟩, ?_⟩
    · have := HVV.out
      have hug := HUG.out
      exact HO.out.kept (But.size ((But.refl u _).setRow _)) (fun q hq => (But.block ((But.refl u _).setRow _)) q (HO.out.lt q hq) (by have := HVV.out q hq; omega))
    · intro q hq
      have := HVV.out q hq
      have := HUG.out
      omega
    · exact Below.setRow (HBW.out w1 B1.out) (Nat.le_refl _) _
  | none =>
    go_upto_region 4 with (go_at_call 36; (refine iR.mono ?_); rintro q w1 ⟨⟨⟨x, rfl⟩, t1, hR⟩, b1⟩; unfold FV EV)
    have i1 := errnoOf_form (HNV.out w1 b1) x
    have i2 : ∀ w', Below w1.heap.size w1 w' → Calls Tryz.prog 37 #[.pointer (some ⟨g, 0, none⟩)] w' fun q w'' => q = .returned (.int .i64 ((k + 1 : Nat) : Int)) ∧ w'' = w' := fun w' b => by
      obtain ⟨v, hb, _, _⟩ := hR
      exact line_any (hb.below b) (by have := HL.out; have := HS.out; have h9 : k ≤ 0 + s.size := HL.out; omega)
    have HX1 : Hid (∀ w', Below w1.heap.size w1 w' → Bx w' u ⟨#[]⟩ 0 ⟨#[]⟩ (.slice none 0 0) ∧ Below u w w') := fun w' b => by
      have b2 := b1.trans (b.mono (Nat.le_of_lt hR.lt))
      exact ⟨HX.out w' b2, HBW.out w' b2⟩
    clear iR b1 hR
    unfold FV EV at *
    go_wp2_with (first
      | (go_at_call 32; (refine i1.mono ?_); rintro q w2 ⟨rfl, b2⟩)
      | (go_at_call 37; (refine (i2 w2 b2).mono ?_); rintro q w3 ⟨rfl, rfl⟩; have x1 := hid (HX1.out _ b2).1; have B1 := hid (HX1.out _ b2).2)
      | ((with_reducible show wpList _ _ _ (Oper.mk _ (Op.store 26 _ _) _ _ _ _ :: _) _ _); go_must (refine wpList_store_row rfl 26 _ _ rfl u _ rfl rfl 26 _ x1.out (sizeNt22 _ _ _ _) rfl (oneNt22 _ _ _ _ _ _) ?_)))
    refine bodyPost_ret (results_row_tmp2_22 rfl _ _ u 26 _ (0, 0) _ rfl (setRow_heap _ _ _ _ _ _ x1.out) Tryz.underlying26 rfl (sizeNt22 _ _ _ _)) rfl ⟨PsQ.no rfl, ?_⟩
    exact Below.setRow B1.out (Nat.le_refl _) _
end Nt
end Go.Proofs.YtdbbemcddhgbcaaGreatDoor

/- Layer 22: Check of a note without signatures, in the program -/
namespace Go.Proofs.YtdbbemcddhgbcaaGreatDoor
open Go.RowKit Go.Shelf
namespace Nt
set_option maxRecDepth 100000 in
set_option maxHeartbeats 4000000 in
theorem search_nil (c : Nat) (name : ByteArray) (f : Value) (w : World) : Calls Tryz.prog 83 #[.slice none 0 c, .string name, f] w fun q w' => q = .returned (.tuple #[.int .i64 0, .bool false]) ∧ w' = w := by
  go_enter Tryz.func83, Tryz.ntmps83
  go_wp2
  refine wp_loop_rounds 1 ?_
  rw [rounds_succ]
  go_wp2
  go_ret2
  exact ⟨rfl, rfl⟩
set_option maxRecDepth 100000 in
set_option maxHeartbeats 4000000 in
theorem place_nil (c : Nat) (name : ByteArray) (w : World) : Calls Tryz.prog 59 #[.slice none 0 c, .string name] w fun q w' => q = .returned (.tuple #[.int .i64 0, .bool false]) ∧ w' = w := by
  have i1 := fun f => search_nil c name f w
  go_enter Tryz.func59, Tryz.ntmps59
  go_wp2_with (go_at_call 83; (refine (i1 _).mono ?_); rintro q w1 ⟨rfl, h0⟩; have h0 := h0.symm; subst h0)
  go_ret2
  exact ⟨rfl, rfl⟩
set_option maxRecDepth 100000 in
set_option maxHeartbeats 4000000 in
theorem must_nil {E : Es} {w : World} (h : Nw w E) (O R : ByteArray) (z : Int) (c : Nat) (name key : ByteArray) : Calls Tryz.prog 38 #[nv O z R (.slice none 0 c), .agg #[.string name, .string key]] w fun q w' => (∃ x, q = .returned (FV x (EV E.n))) ∧ Below w.heap.size w w' := by
  have i1 := place_nil c name
  have HC := hid (fun w' (b : Below w.heap.size w w') => (h.below b).vn)
  have b0 := (Below.refl w.heap.size w).alloc (Nat.le_refl _) (.cells #[.string O, .int .i64 z, .string R, .slice none 0 c] 26)
  have x0 := Bx.new w O z R (.slice none 0 c)
  obtain ⟨W, hW⟩ : ∃ W, w.alloc (.cells #[.string O, .int .i64 z, .string R, .slice none 0 c] 26) = W := ⟨_, rfl⟩
  rw [hW] at b0 x0
  have b1 := (Below.refl W.heap.size W).alloc (Nat.le_refl _) (.cells #[.string name, .string key] 50)
  have k0 : (W.alloc (.cells #[.string name, .string key] 50)).heap[W.heap.size]? = some (.cells #[.string name, .string key] 50 (0, 0)) := heap_alloc_new W _
  have hz : W.heap.size = w.heap.size + 1 := by rw [← hW, size_alloc]
  obtain ⟨V, hV⟩ : ∃ V, W.alloc (.cells #[.string name, .string key] 50) = V := ⟨_, rfl⟩
  rw [hV] at b1 k0
  have c3 := (x0.below b1).c3
  have c0 : V.cell? ⟨W.heap.size, 0, none⟩ = some (.string name) := by rw [cell_of_row _ _ _ _ _ _ k0]; rfl
  have BV := hid (b0.trans (b1.mono b0.size))
  have cn := HC.out V BV.out
  have HW := hid hW
  have HV := hid hV
  have HZ := hid hz
  clear hW hV hz b0 b1 x0 k0 h
  unfold nv FV EV at *
  go_enter Tryz.func38, Tryz.ntmps38
  go_upto_region 1 with fail
  rw [HW.out, HV.out]
  obtain ⟨g, hg⟩ : ∃ g, w.heap.size = g := ⟨_, rfl⟩
  rw [hg] at c3 ⊢
  rw [HZ.out, hg] at c0
  have HG := hid hg
  clear hg
  go_wp2_with (go_at_call 59; (refine (i1 _).mono ?_); rintro q w1 ⟨rfl, h0⟩; have h0 := h0.symm; subst h0)
  go_ret
  exact ⟨⟨_, rfl⟩, BV.out⟩
set_option maxRecDepth 100000 in
set_option maxHeartbeats 4000000 in
theorem check_nil {E : Es} {w : World} (h : Nw w E) (O R : ByteArray) (z : Int) (c : Nat) (name key : ByteArray) (hok : wrongN O z R [] = 0) : Calls Tryz.prog 17 #[nv O z R (.slice none 0 c), .agg #[.string name, .string key]] w fun q w' => q = .returned (.int .i64 222) ∧ Below w.heap.size w w' := by
  have b0 := (Below.refl w.heap.size w).alloc (Nat.le_refl _) (.cells #[.string O, .int .i64 z, .string R, .slice none 0 c] 26)
  have x0 := Bx.new w O z R (.slice none 0 c)
  obtain ⟨W, hW⟩ : ∃ W, w.alloc (.cells #[.string O, .int .i64 z, .string R, .slice none 0 c] 26) = W := ⟨_, rfl⟩
  rw [hW] at b0 x0
  have b1 := (Below.refl W.heap.size W).alloc (Nat.le_refl _) (.cells #[.string name, .string key] 50)
  have k0 : (W.alloc (.cells #[.string name, .string key] 50)).heap[W.heap.size]? = some (.cells #[.string name, .string key] 50 (0, 0)) := heap_alloc_new W _
  obtain ⟨V, hV⟩ : ∃ V, W.alloc (.cells #[.string name, .string key] 50) = V := ⟨_, rfl⟩
  rw [hV] at b1 k0
  have x1 := x0.below b1
  obtain ⟨g, hg⟩ : ∃ g, w.heap.size = g := ⟨_, rfl⟩
  have hg2 : W.heap.size = g + 1 := by rw [← hW, size_alloc, hg]
  rw [hg] at x1
  rw [hg2] at k0
  have BV := hid (b0.trans (b1.mono b0.size))
  have hN : ∀ w', Below V.heap.size V w' → Nw w' E := fun w' b => h.below (BV.out.trans (b.mono BV.out.size))
  have HX : Hid (∀ w', Below V.heap.size V w' → (w'.cell? ⟨g, 0, none⟩ = some (.string O) ∧ w'.cell? ⟨g, 1, none⟩ = some (.int .i64 z) ∧ w'.cell? ⟨g, 2, none⟩ = some (.string R) ∧ w'.cell? ⟨g, 3, none⟩ = some (.slice none 0 c)) ∧ w'.cell? ⟨g + 1, 0, none⟩ = some (.string name) ∧ w'.cell? ⟨g + 1, 1, none⟩ = some (.string key)) := fun w' b => by
    have y := x1.below b
    have k1 := (b.block _ (lt_of_heap k0)).trans k0
    exact ⟨⟨y.c0, y.c1, y.c2, y.c3⟩, by rw [cell_of_row _ _ _ _ _ _ k1]; rfl, by rw [cell_of_row _ _ _ _ _ _ k1]; rfl⟩
  have i1 := mayNote_any (hN V (Below.refl _ _)) O R z [] 0 rfl (by omega) none c (AtS.nil _ _) 0 hok
  have HI := hid (fun w' (b : Below V.heap.size V w') => must_nil (hN w' b) O R z c name key)
  have HE := hid (fun w' (b : Below V.heap.size V w') x => errnoOf_none (hN w' b) x)
  have HW := hid hW
  have HV := hid hV
  have HG := hid hg
  have HG2 := hid hg2
  have d0 := HX.out V (Below.refl _ _)
  clear hW hV b0 b1 x0 x1 k0 h hg hg2 hN hok
  unfold nv at *
  go_enter Tryz.func17, Tryz.ntmps17
  go_upto_region 1 with fail
  rw [HW.out, HV.out, HG.out]
  obtain ⟨⟨d00, d01, d02, d03⟩, -⟩ := d0
  go_upto_region 4 with (go_at_call 34; (refine i1.mono ?_); rintro q w1 ⟨he, b1⟩; (rcases he with ⟨_, rfl⟩ | ⟨e9, _⟩ | ⟨e9, _⟩); rotate_left; (exact absurd e9 (by decide)); (exact absurd e9 (by decide)))
  obtain ⟨⟨p0, p1, p2, p3⟩, q0, q1⟩ := HX.out w1 b1
  have i2 := HI.out w1 b1
  have HB1 := hid b1
  have HE := hid fun w' (b : Below w1.heap.size w1 w') x => HE.out w' (b1.trans (b.mono b1.size)) x
  clear d00 d01 d02 d03 i1 b1
  unfold FV EV at *
  go_wp2_with (first
    | (go_at_call 38; (refine i2.mono ?_); rintro q w2 ⟨⟨x, rfl⟩, b2⟩; have i3 := HE.out w2 b2 x)
    | (go_at_call 32; (refine i3.mono ?_); rintro q w3 ⟨rfl, b3⟩))
  go_ret
  exact ⟨rfl, BV.out.trans ((HB1.out.trans ((b2.trans (b3.mono b2.size)).mono HB1.out.size)).mono BV.out.size)⟩
end Nt
end Go.Proofs.YtdbbemcddhgbcaaGreatDoor
