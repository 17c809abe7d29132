import Derived.Test.YteilkpihddfpeaaGreatDoorPkMU2
import Derived.Test.YteilkpihddfpeaaGreatDoorPkMT4
namespace Go.Proofs.YteilkpihddfpeaaGreatDoor
open Go.RowKit Cod
namespace Msg

theorem Ua.cells {w : World} {B b c d : Nat} {p : PR} {th te tp : Value} (h : Ua w B b c d p th te tp) : w.cell? ⟨d, 0, none⟩ = some (.iface 81 (.pointer (some ⟨c, 0, none⟩))) ∧ w.cell? ⟨d, 1, none⟩ = some (.int .i64 0) ∧ w.cell? ⟨d, 2, none⟩ = some (.int .i64 0) ∧ w.cell? ⟨d, 3, none⟩ = some (.int .i64 0) ∧ w.cell? ⟨d, 4, none⟩ = some (.int .i64 0) ∧ w.cell? ⟨d, 5, none⟩ = some (.string ⟨#[]⟩) ∧ w.cell? ⟨d, 6, none⟩ = some (.slice none 0 0) ∧ w.cell? ⟨d, 7, none⟩ = some (.slice none 0 0) ∧ w.cell? ⟨d, 8, none⟩ = some (.slice none 0 0) := by
  refine ⟨?_, ?_, ?_, ?_, ?_, ?_, ?_, ?_, ?_⟩ <;> (rw [cell_of_row _ _ _ _ _ _ h.row]; rfl)
set_option maxRecDepth 100000 in
set_option maxHeartbeats 4000000 in
theorem partT_not {w : World} {B b c d : Nat} {s : TS} (h : Ua w B b c d ((Part.zero, []), s) (.slice none 0 0) (.slice none 0 0) (.slice none 0 0)) (hn : isDn ((tMark 0 8 s).1 : Int) 0 = false) :
    Calls Tryz.prog 98 #[.pointer (some ⟨d, 0, none⟩)] w fun e w' => e = .returned (.tuple #[]) ∧ UPost w B b c d (tTail 0 tForm s) w' := by
  have hT : tTail 0 tForm s = ((Part.of ((tMark 0 8 s).1 : Int), []), (tMark 0 8 s).2) := by rw [tTail, if_neg (by rw [hn]; exact Bool.false_ne_true)]
  have i2 := isDoneT_any h 0
  rw [hn] at i2
  rw [hT]
  clear h hn hT
  generalize (tMark 0 8 s).1 = n at *
  generalize (tMark 0 8 s).2 = q at *
  go_enter Tryz.func98, Tryz.ntmps98
  go_wp2_with (go_at_call 40; refine i2.mono ?_; rintro e w3 ⟨rfl, p⟩; have P := hid p; clear p)
  refine bodyPost_ret (results_none rfl _ _ _) rfl ?_
  exact ⟨rfl, P.out⟩
set_option maxRecDepth 100000 in
set_option maxHeartbeats 4000000 in
theorem partT_bad {w : World} {B b c d : Nat} {s : TS} (h : Ua w B b c d ((Part.zero, []), s) (.slice none 0 0) (.slice none 0 0) (.slice none 0 0)) (hB : B ≤ w.heap.size) (hn : isDn ((tMark 0 8 s).1 : Int) 0 = true) (hw : wi ((tMark 0 1 (tMark 0 8 s).2).1 : Int) 0 1 = false) :
    Calls Tryz.prog 98 #[.pointer (some ⟨d, 0, none⟩)] w fun e w' => e = .returned (.tuple #[]) ∧ UPost w B b c d (tTail 0 tForm s) w' := by
  have hT : tTail 0 tForm s = tForm (tMark 0 8 s).2 := by rw [tTail, if_pos hn]
  have hst : ((tMark 0 8 s).1 : Int) = 0 := by
    rw [isDn, Bool.and_eq_true, decide_eq_true_eq] at hn
    exact hn.2
  have i2 := isDoneT_any h 0
  rw [hn, hst] at i2
  rw [hT]
  generalize (tMark 0 8 s).2 = q at *
  have hF : tForm q = ((Part.of 0, []), (tMark 0 1 q).2) := by rw [tForm, if_neg (by rw [hw]; exact Bool.false_ne_true)]
  rw [hF]
  clear hF
  obtain ⟨r, hq2⟩ : ∃ r, Hid (tMark 0 1 q = r) := ⟨_, rfl⟩
  rw [hq2.out] at hw ⊢
  have mm := m_taking_mark ⟨c, 0, none⟩
  have HB := hid hB
  clear h hn hT hst hB
  go_enter Tryz.func98, Tryz.ntmps98
  go_wp2_with (go_at_call 40; fail)
  go_at_call 40
  refine i2.mono ?_
  rintro e w3 ⟨rfl, th, te, tp, g1, g2⟩
  have S1 := g1.cells
  have i3 := formOf_any Part.zero none none none 0 0 0 0 0 0 w3.drew
  rw [show fm Part.zero = 0 from rfl] at i3
  simp only [Part.zero] at i3
  have G1 := hid g1
  have G2 := hid g2
  clear g1 g2 i2
  go_wp2
  go_region_held3 (fun w' => w'.cell? ⟨d, 0, none⟩ = some (.iface 81 (.pointer (some ⟨c, 0, none⟩))) ∧ w'.cell? ⟨d, 1, none⟩ = some (.int .i64 0) ∧ w'.cell? ⟨d, 2, none⟩ = some (.int .i64 0) ∧ w'.cell? ⟨d, 3, none⟩ = some (.int .i64 0) ∧ w'.cell? ⟨d, 4, none⟩ = some (.int .i64 0) ∧ w'.cell? ⟨d, 5, none⟩ = some (.string ⟨#[]⟩) ∧ w'.cell? ⟨d, 6, none⟩ = some (.slice none 0 0) ∧ w'.cell? ⟨d, 7, none⟩ = some (.slice none 0 0) ∧ w'.cell? ⟨d, 8, none⟩ = some (.slice none 0 0)) (first | exact S1 | exact S2 | exact S3) (first
    | (go_at_call 106; (with_reducible refine i3.mono ?_); rintro e w4 ⟨rfl, h4⟩; have h4' : Below w3.heap.size w3 w4 := ((Below.refl _ w3).drew).trans h4; have g4 := G1.out.below h4'; have S2 := g4.cells; have i4 := takeMark_any 0 0 1 w4 g4.tk; rw [hq2.out, hw] at i4; have G4 := hid g4; have H4 := hid h4'; clear g4 h4 h4')
    | (go_at_call 112; (with_reducible refine i4.mono ?_); rintro e w5 ⟨rfl, ht, hk⟩; have g5 := G4.out.tk' hk ht; have S3 := g5.cells; have K5 := hid ((Keep.ofBelow H4.out : Keep (DSet b c d) w3 w4).trans (bc_d hk) (fun _ _ e => e)); have G5 := hid g5; clear g5 ht hk))
  go_wp2
  go_end0
  exact ⟨rfl, UPost.step G2.out ⟨_, _, _, G5.out, K5.out⟩⟩
set_option maxRecDepth 100000 in
set_option maxHeartbeats 4000000 in
theorem partT_hashes {w : World} {B b c d : Nat} {s : TS} (h : Ua w B b c d ((Part.zero, []), s) (.slice none 0 0) (.slice none 0 0) (.slice none 0 0)) (hB : B ≤ w.heap.size) (hn : isDn ((tMark 0 8 s).1 : Int) 0 = true) (hz : (tMark 0 1 (tMark 0 8 s).2).1 = 0) :
    Calls Tryz.prog 98 #[.pointer (some ⟨d, 0, none⟩)] w fun e w' => e = .returned (.tuple #[]) ∧ UPost w B b c d (tTail 0 tForm s) w' := by
  have hT : tTail 0 tForm s = tForm (tMark 0 8 s).2 := by rw [tTail, if_pos hn]
  have hst : ((tMark 0 8 s).1 : Int) = 0 := by
    rw [isDn, Bool.and_eq_true, decide_eq_true_eq] at hn
    exact hn.2
  have i2 := isDoneT_any h 0
  rw [hn, hst] at i2
  rw [hT]
  generalize (tMark 0 8 s).2 = q at *
  have hw : wi ((tMark 0 1 q).1 : Int) 0 1 = true := by rw [hz]; rfl
  have hF : tForm q = tFr (fun s => ([], s)) .hashes ((Part.of 0, []), (tMark 0 1 q).2) := by rw [tForm, if_pos hw, if_pos hz]; rfl
  rw [hF]
  clear hF hw
  obtain ⟨r, hq2⟩ : ∃ r, Hid (tMark 0 1 q = r) := ⟨_, rfl⟩
  rw [hq2.out] at hz ⊢
  have mm := m_taking_mark ⟨c, 0, none⟩
  have HB := hid hB
  clear h hn hT hst hB
  go_enter Tryz.func98, Tryz.ntmps98
  go_wp2_with (go_at_call 40; fail)
  go_at_call 40
  refine i2.mono ?_
  rintro e w3 ⟨rfl, th, te, tp, g1, g2⟩
  have S1 := g1.cells
  have i3 := formOf_any Part.zero none none none 0 0 0 0 0 0 w3.drew
  rw [show fm Part.zero = 0 from rfl] at i3
  simp only [Part.zero] at i3
  have G1 := hid g1
  have G2 := hid g2
  clear g1 g2 i2
  go_wp2
  go_region_held3 (fun w' => w'.cell? ⟨d, 0, none⟩ = some (.iface 81 (.pointer (some ⟨c, 0, none⟩))) ∧ w'.cell? ⟨d, 1, none⟩ = some (.int .i64 0) ∧ w'.cell? ⟨d, 2, none⟩ = some (.int .i64 0) ∧ w'.cell? ⟨d, 3, none⟩ = some (.int .i64 0) ∧ w'.cell? ⟨d, 4, none⟩ = some (.int .i64 0) ∧ w'.cell? ⟨d, 5, none⟩ = some (.string ⟨#[]⟩) ∧ w'.cell? ⟨d, 6, none⟩ = some (.slice none 0 0) ∧ w'.cell? ⟨d, 7, none⟩ = some (.slice none 0 0) ∧ w'.cell? ⟨d, 8, none⟩ = some (.slice none 0 0)) (first | exact S1 | exact S2 | exact S3) (first
    | (go_at_call 106; (with_reducible refine i3.mono ?_); rintro e w4 ⟨rfl, h4⟩; have h4' : Below w3.heap.size w3 w4 := ((Below.refl _ w3).drew).trans h4; have g4 := G1.out.below h4'; have S2 := g4.cells; have i4 := takeMark_any 0 0 1 w4 g4.tk; rw [hq2.out, hz, show wi ((0 : Nat) : Int) 0 1 = true from rfl] at i4; simp only [Int.ofNat_zero] at i4; have G4 := hid g4; have H4 := hid h4'; clear g4 h4 h4')
    | (go_at_call 112; (with_reducible refine i4.mono ?_); rintro e w5 ⟨rfl, ht, hk⟩; have g5 := G4.out.tk' hk ht; have S3 := g5.cells; have K5 := hid ((Keep.ofBelow H4.out : Keep (DSet b c d) w3 w4).trans (bc_d hk) (fun _ _ e => e)); have i5 := u_hashes g5 (Nat.le_trans HB.out (Nat.le_trans G2.out.size K5.out.size)) (fun s => ([], s)); clear g5 ht hk))
  go_wp2_with (go_at_call 51; refine i5.mono ?_; rintro e w6 ⟨rfl, p⟩; have P6 := hid p; clear p)
  go_end0
  exact ⟨rfl, UPost.step G2.out (UPost.step K5.out P6.out)⟩
set_option maxRecDepth 100000 in
set_option maxHeartbeats 4000000 in
theorem partT_root {w : World} {B b c d : Nat} {s : TS} (h : Ua w B b c d ((Part.zero, []), s) (.slice none 0 0) (.slice none 0 0) (.slice none 0 0)) (hB : B ≤ w.heap.size) (hn : isDn ((tMark 0 8 s).1 : Int) 0 = true) (hz : (tMark 0 1 (tMark 0 8 s).2).1 = 1) :
    Calls Tryz.prog 98 #[.pointer (some ⟨d, 0, none⟩)] w fun e w' => e = .returned (.tuple #[]) ∧ UPost w B b c d (tTail 0 tForm s) w' := by
  have hT : tTail 0 tForm s = tForm (tMark 0 8 s).2 := by rw [tTail, if_pos hn]
  have hst : ((tMark 0 8 s).1 : Int) = 0 := by
    rw [isDn, Bool.and_eq_true, decide_eq_true_eq] at hn
    exact hn.2
  have i2 := isDoneT_any h 0
  rw [hn, hst] at i2
  rw [hT]
  generalize (tMark 0 8 s).2 = q at *
  have hw : wi ((tMark 0 1 q).1 : Int) 0 1 = true := by rw [hz]; rfl
  have hF : tForm q = tFr (fun s => ([], s)) .root ((Part.of 0, []), (tMark 0 1 q).2) := by rw [tForm, if_pos hw, if_neg (by rw [hz]; exact Nat.one_ne_zero)]; rfl
  rw [hF]
  clear hF hw
  obtain ⟨r, hq2⟩ : ∃ r, Hid (tMark 0 1 q = r) := ⟨_, rfl⟩
  rw [hq2.out] at hz ⊢
  have mm := m_taking_mark ⟨c, 0, none⟩
  have HB := hid hB
  clear h hn hT hst hB
  go_enter Tryz.func98, Tryz.ntmps98
  go_wp2_with (go_at_call 40; fail)
  go_at_call 40
  refine i2.mono ?_
  rintro e w3 ⟨rfl, th, te, tp, g1, g2⟩
  have S1 := g1.cells
  have i3 := formOf_any Part.zero none none none 0 0 0 0 0 0 w3.drew
  rw [show fm Part.zero = 0 from rfl] at i3
  simp only [Part.zero] at i3
  have G1 := hid g1
  have G2 := hid g2
  clear g1 g2 i2
  go_wp2
  go_region_held3 (fun w' => w'.cell? ⟨d, 0, none⟩ = some (.iface 81 (.pointer (some ⟨c, 0, none⟩))) ∧ w'.cell? ⟨d, 1, none⟩ = some (.int .i64 0) ∧ w'.cell? ⟨d, 2, none⟩ = some (.int .i64 0) ∧ w'.cell? ⟨d, 3, none⟩ = some (.int .i64 0) ∧ w'.cell? ⟨d, 4, none⟩ = some (.int .i64 0) ∧ w'.cell? ⟨d, 5, none⟩ = some (.string ⟨#[]⟩) ∧ w'.cell? ⟨d, 6, none⟩ = some (.slice none 0 0) ∧ w'.cell? ⟨d, 7, none⟩ = some (.slice none 0 0) ∧ w'.cell? ⟨d, 8, none⟩ = some (.slice none 0 0)) (first | exact S1 | exact S2 | exact S3) (first
    | (go_at_call 106; (with_reducible refine i3.mono ?_); rintro e w4 ⟨rfl, h4⟩; have h4' : Below w3.heap.size w3 w4 := ((Below.refl _ w3).drew).trans h4; have g4 := G1.out.below h4'; have S2 := g4.cells; have i4 := takeMark_any 0 0 1 w4 g4.tk; rw [hq2.out, hz, show wi ((1 : Nat) : Int) 0 1 = true from rfl] at i4; have G4 := hid g4; have H4 := hid h4'; clear g4 h4 h4')
    | (go_at_call 112; (with_reducible refine i4.mono ?_); rintro e w5 ⟨rfl, ht, hk⟩; have g5 := G4.out.tk' hk ht; have S3 := g5.cells; have K5 := hid ((Keep.ofBelow H4.out : Keep (DSet b c d) w3 w4).trans (bc_d hk) (fun _ _ e => e)); have i5 := u_root g5 (Nat.le_trans HB.out (Nat.le_trans G2.out.size K5.out.size)) (fun s => ([], s)); clear g5 ht hk))
  go_wp2_with (go_at_call 49; refine i5.mono ?_; rintro e w6 ⟨rfl, p⟩; have P6 := hid p; clear p)
  go_end0
  exact ⟨rfl, UPost.step G2.out (UPost.step K5.out P6.out)⟩
theorem partT_any {w : World} {B b c d : Nat} {s : TS} (h : Ua w B b c d ((Part.zero, []), s) (.slice none 0 0) (.slice none 0 0) (.slice none 0 0)) (hB : B ≤ w.heap.size) :
    Calls Tryz.prog 98 #[.pointer (some ⟨d, 0, none⟩)] w fun e w' => e = .returned (.tuple #[]) ∧ UPost w B b c d (tTail 0 tForm s) w' := by
  cases hn : isDn ((tMark 0 8 s).1 : Int) 0 with
  | false => exact partT_not h hn
  | true =>
    cases hw : wi ((tMark 0 1 (tMark 0 8 s).2).1 : Int) 0 1 with
    | false => exact partT_bad h hB hn hw
    | true =>
      have := wi_iff.1 hw
      rcases Nat.lt_or_ge (tMark 0 1 (tMark 0 8 s).2).1 1 with e | e
      · exact partT_hashes h hB hn (by omega)
      · exact partT_root h hB hn (by omega)
end Msg
end Go.Proofs.YteilkpihddfpeaaGreatDoor

namespace Go.Proofs.YteilkpihddfpeaaGreatDoor
open Go.RowKit Cod
namespace Msg

theorem askT_any {w : World} {b c : Nat} {s : TS} (h : Tk w b c s) :
    Calls Tryz.prog 28 #[.pointer (some ⟨c, 0, none⟩), .int .i64 3, .int .i64 7] w (QPost w b c (tReq (fun s => ([], s)) 3 7 s)) :=
  reqT_any h 3 7 (by omega) (by omega) (fun s => ([], s)) (fun _ _ hw g hg => rc_six g (by
    have := no_asks hw g
    rw [Int.toNat_natCast] at this
    exact this hg))
theorem tMany_max : ∀ (s : TS), (tCount s).1 ≤ 64 := fun s => by
  show (if wi _ 1 64 = true then _ else 0) ≤ 64
  split
  · rename_i hw
    have := (wi_iff.1 hw).2
    omega
  · omega
/-- while the asks are taken -/
structure Ml (w wr : World) (b c n : Nat) (R : List Ask × TS) (v : Value) (k : Nat) (E : List Em) (s : TS) : Prop where
  tk : Tk wr b c s
  kp : Keep (BC b c) w wr
  gl : Gl wr w.heap.size v E
  ln : E.length = k
  eq : tMany (n - k) (E.map (·.x)) s = R
theorem Ml.size {w wr : World} {b c n : Nat} {R : List Ask × TS} {v : Value} {k : Nat} {E : List Em} {s : TS} (h : Ml w wr b c n R v k E s) : w.heap.size ≤ wr.heap.size := h.kp.size
set_option maxRecDepth 100000 in
set_option maxHeartbeats 4000000 in
theorem takeAsks_any {b c : Nat} {s : TS} (z : Value) (w : World) (h : Tk w b c s) :
    Calls Tryz.prog 109 #[.pointer (some ⟨c, 0, none⟩), z] w fun e w' => TkL w b c (tAsks s).2 e w' fun v => As w' w.heap.size w'.heap.size v (tAsks s).1 := by
  have i1 := count_any w h
  have hmx := tMany_max s
  have e1 : tAsks s = tMany (tCount s).1 [] (tCount s).2 := rfl
  rw [e1]
  generalize (tCount s).1 = n at *
  generalize (tCount s).2 = s1 at *
  have hbl := h.rd.lt
  have hcl := h.lt
  clear h e1
  obtain ⟨R, hR⟩ : ∃ R, Hid (tMany n [] s1 = R) := ⟨_, rfl⟩
  rw [hR.out]
  go_enter Tryz.func109, Tryz.ntmps109
  go_wp2_with (go_at_call 110; refine i1.mono ?_; rintro e w1 ⟨rfl, h1, h2⟩; have H1 := hid h1; have H2 := hid h2; clear h1 h2)
  go_loopw [5, 8] (fun l i w' => ∃ (k : Nat) (E : List Em) (s' : TS), k ≤ n ∧ i = .int .i64 k ∧ Hid (Ml w w' b c n R l k E s')) (fun _ i _ => n - (intOf i).toNat)
  case atStart => exact ⟨0, [], s1, by omega, rfl, ⟨H1.out, H2.out, Gl.nil _ _, rfl, hR.out⟩⟩
  case round =>
    obtain ⟨k, E, s', hk, rfl, hM⟩ := hrel
    by_cases hlt : k < n
    · have hlt' : (k : Int) < (n : Int) := by omega
      have i2 := askT_any hM.out.tk
      go_wp2_with (go_at_call 28; fail)
      go_at_call 28
      refine i2.mono ?_
      rintro e w2 ⟨ul, ue, ua, rfl, g1, g2, g3, g4, g5, g6, g7, g8⟩
      obtain ⟨x, hx⟩ : ∃ x, Hid ((tAsk s').1 = x) := ⟨_, rfl⟩
      obtain ⟨s2, hs2⟩ : ∃ s2, Hid ((tAsk s').2 = s2) := ⟨_, rfl⟩
      have hx' : (tReq (fun s => ([], s)) 3 7 s').1.1 = x := hx.out
      have hs' : (tReq (fun s => ([], s)) 3 7 s').2 = s2 := hs2.out
      have hshape : ∃ p q, ua = .slice p x.n q := by
        obtain ⟨p, q, e⟩ := g5.shape
        exact ⟨p, q, by rw [e, ← g6, hx']⟩
      rw [hx'] at g1 g3 ⊢
      rw [hs'] at g7
      clear g5 g6 hx' hs'
      have hsz := hM.out.size
      have hGl := hM.out.gl.keep g8 (fun j hj e => by rcases e with e | e <;> omega)
      have hvl := hM.out.gl.own.lt
      have hvg := hM.out.gl.ge
      have hln := hM.out.ln
      have ap : ∀ u, Nw wr.heap.size w2.heap.size u → Apart u (OwnS u5) := fun u hn y m cc e _ hk => by
        have := hvl _ hk
        have := (hn y m cc e).1
        omega
      obtain ⟨v', w3, r1, r2, r3⟩ := hGl.push (Nat.le_trans hsz g8.size) (by omega) ⟨x, ul, ue, ua⟩ ⟨g1, g3, hshape, g2.mono hsz (Nat.le_refl _), g4.mono hsz (Nat.le_refl _)⟩ (ap ul g2) (ap ue g4)
      have hc : (Builtin.append_ #[36, 36] 36 #[u5, .slice (some ⟨w2.heap.size, 0, none⟩) 1 1]).run Tryz.prog (w2.alloc (.cells #[.int .i64 x.kind, .int .i64 x.a, .int .i64 x.b, .int .i64 x.size, ul, ue, ua] 40)) = .ok v' w3 := r1
      have N : Hid (Ml w w3 b c n R v' (k + 1) (E ++ [⟨x, ul, ue, ua⟩]) s2) := by
        refine ⟨g7.keep r3 (fun e => by have := hvg _ e; omega) (fun e => by have := hvg _ e; omega), (hM.out.kp.trans (T := BC b c) g8 (fun _ _ e => e)).trans r3 (fun j hj e => by have := hvg _ e; omega), r2, by rw [List.length_append, hln]; rfl, ?_⟩
        have := hM.out.eq
        rw [show n - k = (n - (k + 1)) + 1 from by omega, tMany, hx.out, hs2.out] at this
        rw [List.map_append]; exact this
      obtain ⟨p1, q1, e1, _⟩ := id g1
      obtain ⟨p2, q2, e2, _⟩ := id g3
      obtain ⟨p3, q3, e3⟩ := id hshape
      subst e1 e2 e3
      rw [akV]
      clear g1 g2 g3 g4 g7 g8 r1 r2 r3 hshape hGl hvl hvg ap i2
      go_wp2_with (at_builtin; go_must (refine Lib.wpList_append_run _ rfl _ _ 36 36 rfl _ _ rfl rfl _ _ hc ?_))
      exact ⟨⟨k + 1, _, s2, by omega, by go_num, N⟩, by simp [intOf]; omega⟩
    · obtain rfl : k = n := by omega
      have hE := hM.out.eq
      rw [Nat.sub_self, tMany] at hE
      obtain ⟨p, q, hu, _, _⟩ := hM.out.gl.own.shape
      subst hu
      subst hE
      go_wp2
      go_ret
      exact ⟨_, rfl, hM.out.gl.as, fun y m cc e => (by
        have ha := hM.out.gl
        cases e
        exact ⟨ha.ge _ rfl, ha.own.lt _ rfl⟩), hM.out.tk, hM.out.kp⟩
end Msg
end Go.Proofs.YteilkpihddfpeaaGreatDoor
