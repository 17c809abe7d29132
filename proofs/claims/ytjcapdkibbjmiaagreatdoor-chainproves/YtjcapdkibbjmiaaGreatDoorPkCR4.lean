import Derived.Test.YtjcapdkibbjmiaaGreatDoorPkCR1
import Derived.Test.YtjcapdkibbjmiaaGreatDoorPkCH0
import Derived.Test.YtjcapdkibbjmiaaGreatDoorPkCP2c
import Derived.Test.YtjcapdkibbjmiaaGreatDoorPkFL2
namespace Go.Proofs.YtjcapdkibbjmiaaGreatDoor
open Go.RowKit Go.Shelf
namespace Chn
theorem told_hi {hs : List Nat} (HH : Hds hs) {n : Nat} (hl : ∀ x ∈ hs, x ≤ n) : ∀ s ∈ told hs, s.1 ≤ s.2 ∧ s.2 ≤ n := fun s hs' => by
  have h1 := (tol_lo HH (i := hs.length - 1) (by have := HH.ne; omega) s hs').1
  refine ⟨Nat.le_of_lt h1, ?_⟩
  have h2 := tol_sub hs _ s hs'
  have key : ∀ i, i < hs.length → s ∈ allP hs i → s.2 ≤ n := fun i => by
    induction i with
    | zero => intro _ e; cases e
    | succ i ih =>
      intro hi e
      rcases List.mem_append.1 e with e | e
      · exact ih (by omega) e
      · have hp := HH.pair hi
        have := (prf_lo hp.1 (Nat.le_of_lt hp.2.1) s e).2
        have := hl _ (List.mem_of_getElem? (getD_at hi))
        omega
  exact key _ (by have := HH.ne; omega) h2
def RvP (w : World) (L : List (List UInt8)) (hs : List Nat) (m k : Nat) (r : Ending) (w' : World) : Prop := ∃ ai ci ah chp, r = .returned (.tuple #[ch (.slice ai m ci) (.slice ah k chp), .int .i64 0]) ∧ OwnM 1 w' (.slice ai m ci) m (ivC hs) ∧ (∀ i, (Value.slice ai m ci).ownBlock = some i → w.heap.size ≤ i) ∧ Own w' w.heap.size (.slice ah k chp) (svs (pvH L hs)) ∧ Below w.heap.size w w'
set_option maxRecDepth 100000 in
set_option maxHeartbeats 8000000 in
theorem rProve_ok (hs : List Nat) (HH : Hds hs) (m k : Nat) (hm : Hid (hs.length = m)) (hk : Hid ((told hs).length = k)) {w : World} {q h : Nat} {L : List (List UInt8)} {F : Nat → Prop} (t : RtL w q h L F) (hl : ∀ x ∈ hs, x ≤ L.length) (x : Addr) (cap : Nat) (hA : AtI w (some x) (ix hs)) :
    Calls Tryz.prog 18 #[.pointer (some ⟨q, 0, none⟩), .slice (some x) m cap] w (RvP w L hs m k) := by
  have lm : m ≤ 64 := by rw [← hm.out]; exact HH.le
  have lm1 : 1 ≤ m := by rw [← hm.out]; exact HH.ne
  have lk : k ≤ 2583 := by rw [← hk.out]; exact tol_few HH (by have := HH.ne; omega)
  have htl := hid (told_hi HH hl)
  obtain ⟨M, hM⟩ : ∃ M, m = M + 1 := ⟨m - 1, by omega⟩
  have b0 := (Below.refl w.heap.size w).alloc (Nat.le_refl _) (.cells #[.slice none 0 0, .slice none 0 0] 45)
  have s0 := ChI.new w (.slice none 0 0) (.slice none 0 0)
  have hxl := hid (show (ix hs).length = m by rw [← hm.out]; simp [ix])
  have i1 := rHeads_any (ix hs) m hxl (some x) cap _ (by omega) (hA.below b0 (Nat.le_refl _))
  rw [hds_mayB HH] at i1
  have i3 := hid (fun w' (bb : Below w.heap.size w w') => rspans_any hs HH m hm (some x) cap w' (hA.below bb (Nat.le_refl _)))
  have fact : ∀ w', Below w.heap.size w w' → w'.cell? (x.add M) = some (.int .i64 (hs.getD M 0 : Int)) := fun w' bb => by
    obtain ⟨y, hy, _, h0⟩ := (hA.below bb (Nat.le_refl _)) M _ (ix_at (by rw [hm.out]; omega))
    obtain rfl := Option.some.inj hy
    exact h0
  have hlast : hs.getD M 0 ≤ L.length := hl _ (List.mem_of_getElem? (getD_at (by rw [hm.out]; omega)))
  have HF := hid fact
  have i2 := hid (fun w' (bb : Below w.heap.size w w') => rSizeL (t.below bb))
  have AI := hid (fun w' (h : Below w.heap.size w w') => hA.below h (Nat.le_refl _))
  have HT := hid t
  generalize hs.getD M 0 = z at *
  have z1 : ¬ (L.length : Int) < (z : Int) := by omega
  have z2 : decide (L.length < z) = false := decide_eq_false (by omega)
  have v1 : IntKind.i64.wrap ((m : Int) - 1) = (M : Int) := by rw [IntKind.wrap_i64]; omega
  have v3 : (0 : Int) ≤ (M : Int) := by omega
  have v4 : (M : Int) < (m : Int) := by omega
  clear hM
  have B0 := hid b0
  have S0 := hid s0
  obtain ⟨ll, hLL⟩ : ∃ ll, L.length = ll := ⟨_, rfl⟩
  have HLL := hid hLL
  unfold Hid at i2
  rw [hLL] at i2 z1 z2
  have i2 := hid i2
  clear hA b0 s0 t fact hl hLL hlast
  go_enter Tryz.func18, Tryz.ntmps18
  go_wp2_with (go_at_call 26; refine i1.mono ?_; rintro r w1 ⟨rfl, b1⟩; have B1 := hid (B0.out.trans (b1.mono B0.out.size)); have S1 := hid (S0.out.below b1); have x1 := HF.out _ B1.out; clear b1)
  go_quiet (first | (go_at_call 46; refine Calls.quiet_of_same (i2.out _ ?_); exact ⟨B1.out.os, B1.out.tape, B1.out.output, B1.out.size, B1.out.block⟩))
  have B2 : Hid (Below w.heap.size w (w1.drewN nq)) := ⟨B1.out.os, B1.out.tape, B1.out.output, B1.out.size, B1.out.block⟩
  have S2 : Hid (ChI (w1.drewN nq) w.heap.size (.slice none 0 0) (.slice none 0 0)) := S1.out
  generalize w1.drewN nq = w2 at *
  clear x1 HF i1 i2 B1 S1 B0 S0
  have b3 := (Below.refl w2.heap.size w2).alloc (Nat.le_refl _) (.cells #[.slice none 0 0, .slice none 0 0] 45)
  have C3 := ChI.new w2 (.slice none 0 0) (.slice none 0 0)
  have B3 := B2.out.trans (b3.mono B2.out.size)
  have z3 : (w2.alloc (.cells #[.slice none 0 0, .slice none 0 0] 45)).heap.size = w2.heap.size + 1 := size_alloc _ _
  have S3 := S2.out.below b3
  go_upto_region 5 with fail
  generalize w2.alloc (.cells #[.slice none 0 0, .slice none 0 0] 45) = w3 at *
  obtain ⟨v4', w4, hap, O4, G4⟩ := append_intsC w3 x cap hs m hm (AI.out _ B3) lm1 (by omega)
  have b4 : Below w3.heap.size w3 w4 := keep_belowC G4.keep (Nat.le_refl _) (fun k e => by cases e)
  have ge4 : ∀ i, v4'.ownBlock = some i → w3.heap.size ≤ i := fun i hi => by
    rcases Grow.alt' G4 i hi with e | e
    · cases e
    · exact e
  obtain ⟨a4, c4, hv4, _, _⟩ := O4.shape
  subst hv4
  have C4 := C3.below b4
  have y0 := C3.c0
  have y1 := C4.c0
  have y2 := frozen_of_row _ _ 0 _ _ C4
  have B4 := B3.trans (b4.mono B3.size)
  have S4 := S3.below b4
  have hg1 : w.heap.size < w2.heap.size := lt_of_heap S2.out
  have k5 := Keep.ofSet (S := fun k => k = w2.heap.size) w4 w2.heap.size 0 (.slice a4 m c4) rfl
  have C5 := hid (C4.set0 (.slice a4 m c4))
  have O5 := hid (O4.keep k5 (fun i hi e => by have := ge4 i hi; omega))
  have B5 := hid (Below.setCell (p := ⟨w2.heap.size, 0, none⟩) B4 B2.out.size (.slice a4 m c4))
  have S5 : Hid (ChI (w4.setCell ⟨w2.heap.size, 0, none⟩ (.slice a4 m c4)) w.heap.size (.slice none 0 0) (.slice none 0 0)) := (k5.block w.heap.size (lt_of_heap S4) (by omega)).trans S4
  have GE4 := hid ge4
  have i4 := i3.out _ B5.out
  clear C3 C4 O4 G4 b3 b4 B3 B4 S3 S4 k5 ge4 i3 S2
  go_wp2_with (first | (at_builtin; go_must (refine Lib.wpList_append_run _ rfl _ _ 23 23 rfl _ _ rfl rfl _ _ hap ?_)) | (go_at_call 45; fail))
  clear hap y0 y1 y2
  generalize w4.setCell ⟨w2.heap.size, 0, none⟩ (.slice a4 m c4) = w5 at *
  with_reducible refine i4.mono ?_
  rintro r w6 ⟨v6, rfl, R6⟩
  have b6 := R6.bel
  obtain ⟨a6, c6, hv6, _, _⟩ := OwnM.shape R6.own
  rw [hk.out] at hv6
  subst hv6
  have C6 := hid (C5.out.below b6)
  have O6 := hid (O5.out.below b6)
  have S6 := hid (S5.out.below b6)
  have B6 := hid (B5.out.trans (b6.mono B5.out.size))
  have P6 := hid R6.own
  have PF : Hid (∀ i, (Value.slice a6 k c6).ownBlock = some i → ¬ i = w2.heap.size) := fun i hi e => by have := R6.ge i hi; have := lt_of_heap C5.out; omega
  have OG : Hid (∀ i, (Value.slice a4 m c4).ownBlock = some i → ¬ i = w2.heap.size) := fun i hi e => by have := GE4.out i hi; omega
  have Z6 := hid (show w2.heap.size < w6.heap.size from lt_of_heap C6.out)
  have ZB := hid (show w.heap.size < w2.heap.size from hg1)
  have GE : Hid (∀ i, (Value.slice a4 m c4).ownBlock = some i → w.heap.size < i) := fun i hi => by have := GE4.out i hi; have := z3; omega
  obtain ⟨S, hS⟩ : ∃ S, told hs = S := ⟨_, rfl⟩
  have HS := hid hS
  unfold Hid at P6 hk htl
  rw [hS] at P6 hk htl
  have P6 := hid P6
  have hk := hid hk
  have htl := hid htl
  clear i4 R6 b6 C5 O5 S5 B5 hS GE4 z3 hg1 B2
  generalize w2.heap.size = g1 at *
  go_wp2
  go_loopw [9, 10, 11] (fun i _ _ w' => ∃ (j : Nat) (vh : Value), j ≤ k ∧ i = .int .i64 (j : Int) ∧ Hid (ChI w' g1 (.slice a4 m c4) vh) ∧ Hid (Own w' w6.heap.size vh (svs ((S.take j).map fun s => Tree.root (Til.sg L s.1 s.2)))) ∧ Hid (Keep (fun i => i = g1) w6 w')) (fun i _ _ _ => k - (intOf i).toNat)
  case atStart => exact ⟨0, .slice none 0 0, by omega, rfl, C6, Own.nil _ _, Keep.refl _ _⟩
  case round =>
    clear C6
    obtain ⟨j, vh, hj, rfl, hC, hO, hK⟩ := hrel
    have zK := hK.out.size
    have zw := Z6.out
    have BW := hid (B6.out.trans (keep_belowC hK.out B6.out.size fun i e => by have := ZB.out; omega))
    by_cases hjm : j < k
    · have d0 : (j : Int) < (k : Int) := by omega
      have l0 : (0 : Int) ≤ (j : Int) := by omega
      have hjS : j < S.length := by rw [hk.out]; exact hjm
      obtain ⟨gp, hgp, _, p0, p1⟩ := ownP_atC (show OwnP wr (.slice a6 k c6) S from OwnM.keep P6.out hK.out fun i hi => PF.out i hi) (List.getElem?_eq_getElem hjS)
      subst hgp
      have hs' := htl.out S[j] (List.getElem_mem hjS)
      have HX : Hid (tPartO L (S[j].1 : Int) (S[j].2 : Int) = (Tree.root (Til.sg L S[j].1 S[j].2), 0)) := tPartO_nat hs'.1 hs'.2
      have iP := rPart7_any (HT.out.below BW.out) (S[j].1 : Int) (S[j].2 : Int) HX
      have hst := hid (show (S.take (j + 1)).map (fun s => Tree.root (Til.sg L s.1 s.2)) = (S.take j).map (fun s => Tree.root (Til.sg L s.1 s.2)) ++ [Tree.root (Til.sg L S[j].1 S[j].2)] by rw [List.take_add_one, List.getElem?_eq_getElem hjS, List.map_append]; rfl)
      have hlen : ((S.take j).map (fun s => Tree.root (Til.sg L s.1 s.2))).length ≤ 2000000 := by rw [List.length_map, List.length_take]; omega
      generalize (S[j].1 : Int) = x0 at *
      generalize (S[j].2 : Int) = x1 at *
      generalize Tree.root (Til.sg L S[j].1 S[j].2) = r at *
      rw [show sv r = Value.string ⟨r.toArray⟩ from rfl] at iP
      clear hs' HX
      go_wp2_with (go_at_call 47; fail)
      with_reducible refine iP.mono ?_
      rintro r' w7 ⟨rfl, b7⟩
      have C7 := hC.out.below b7
      have y1 := C7.c1
      obtain ⟨v8, w8, hap, hO8, hb8⟩ := append_text w7 w6.heap.size vh _ r (hO.out.below b7 (Nat.le_refl _)) hlen (Nat.le_trans zK b7.size)
      rw [← hst.out] at hO8
      obtain ⟨a8, c8, hv8⟩ := Own.shape hO8
      subst hv8
      rw [show sv r = Value.string ⟨r.toArray⟩ from rfl] at hap
      have C8 : ChI w8 g1 (.slice a4 m c4) vh := (hb8.block _ zw).trans C7
      have y8 := C8.c1
      have f8 : w8.frozen? ⟨g1, 1, none⟩ = false := frozen_of_row _ _ _ _ _ C8
      have k7 := hK.out.trans (Keep.ofBelow (S := fun i => i = g1) b7) fun _ _ e => e
      have k78 : Keep (fun i => i = g1) w6 w8 := ⟨hb8.os.trans k7.os, hb8.tape.trans k7.tape, hb8.output.trans k7.output, Nat.le_trans k7.size hb8.size, fun i hi hs => (hb8.block i hi).trans (k7.block i hi hs)⟩
      generalize hLN : (svs ((S.take (j + 1)).map fun s => Tree.root (Til.sg L s.1 s.2))).length = LN at *
      have C9 := hid (C8.set1 (.slice a8 LN c8))
      have k9 := Keep.ofSet (S := fun i => i = g1) w8 g1 1 (.slice a8 LN c8) rfl
      have K9 := hid (k78.trans k9 fun _ _ e => e)
      have O9 := hid (hO8.keep k9 fun i hi e => by have := hO8.ge i hi; omega)
      clear hO8 hb8 C7 C8 k7 k78 k9 b7 iP hLN hst
      go_wp2_with (at_builtin; go_must (refine Lib.wpList_append_run _ rfl _ _ 22 22 rfl _ _ rfl rfl _ _ hap ?_))
      exact ⟨⟨j + 1, _, by omega, by go_num, C9, O9, K9⟩, by simp [intOf]; omega⟩
    · obtain rfl : j = k := by omega
      have d0 : ¬ (j : Int) < (j : Int) := by omega
      have hO1 := hO.out
      rw [← hk.out, List.take_length] at hO1
      obtain ⟨ah, chp, hvh⟩ := Own.shape hO1
      rw [show (svs (S.map fun s => Tree.root (Til.sg L s.1 s.2))).length = j by rw [← hk.out]; simp [svs]] at hvh
      subst hvh
      have HO1 := hid hO1
      have SW : Hid (ChI wr w.heap.size (.slice none 0 0) (.slice none 0 0)) := (hK.out.block w.heap.size (lt_of_heap S6.out) (by have := ZB.out; omega)).trans S6.out
      have OW := hid (O6.out.keep hK.out fun i hi => OG.out i hi)
      have kc0 := SW.out.c0
      have kc1 := SW.out.c1
      have kf0 : wr.frozen? ⟨w.heap.size, 0, none⟩ = false := frozen_of_row _ _ _ _ _ SW.out
      have kf1 : wr.frozen? ⟨w.heap.size, 1, none⟩ = false := frozen_of_row _ _ _ _ _ SW.out
      have u0 := hC.out.c0
      have u1 := hC.out.c1
      clear hO hO1
      go_wp2
      have R8 := heap_setCell_same _ w.heap.size 1 _ _ (.slice ah j chp) (heap_setCell_same wr w.heap.size 0 _ _ (.slice a4 m c4) SW.out)
      have k9 : Keep (fun i => i = w.heap.size) wr ((wr.setCell ⟨w.heap.size, 0, none⟩ (.slice a4 m c4)).setCell ⟨w.heap.size, 1, none⟩ (.slice ah j chp)) := (Keep.ofSet (S := fun i => i = w.heap.size) wr w.heap.size 0 (.slice a4 m c4) rfl).trans (Keep.ofSet (S := fun i => i = w.heap.size) _ w.heap.size 1 (.slice ah j chp) rfl) fun _ _ e => e
      have zb := ZB.out
      have ge := GE.out
      have sl := lt_of_heap SW.out
      refine bodyPost_ret (results_rowC_tmp rfl _ _ w.heap.size 45 _ (0, 0) _ rfl R8 Tryz.underlying45 rfl (sizeCh _ _)) rfl ⟨a4, c4, ah, chp, rfl, ?_, (fun i hi => Nat.le_of_lt (ge i hi)), ?_, BW.out.trans (keep_belowC k9 BW.out.size (fun i e => by omega))⟩
      · exact OW.out.keep k9 (fun i hi e => by have := ge i hi; omega)
      · have o9 := HO1.out.keep k9 (fun i hi e => by have := HO1.out.ge i hi; omega)
        unfold pvH
        rw [HS.out]
        exact o9.mono (by have := Z6.out; omega)
end Chn
end Go.Proofs.YtjcapdkibbjmiaaGreatDoor

/- Layer 13: what Prove answers, of both -/
namespace Go.Proofs.YtjcapdkibbjmiaaGreatDoor
open Go.RowKit Go.Shelf
namespace Chn
inductive Pvs (cs : List Int) (L : List (List UInt8)) : List Int → List (List UInt8) → Int → Prop
  | no (h : mayB cs = false) : Pvs cs L [] [] 130
  | over (hs : List Nat) (e : cs = ix hs) (HH : Hds hs) (h : L.length < hs.getD (hs.length - 1) 0) : Pvs cs L [] [] 130
  | ok (hs : List Nat) (e : cs = ix hs) (HH : Hds hs) (h : ∀ x ∈ hs, x ≤ L.length) : Pvs cs L (ix hs) (pvH L hs) 0
theorem Hds.le_last {hs : List Nat} (h : Hds hs) : ∀ (i a : Nat), hs[i]? = some a → a ≤ hs.getD (hs.length - 1) 0 := by
  have key : ∀ (d i : Nat), i + d < hs.length → hs.getD i 0 ≤ hs.getD (i + d) 0 := by
    intro d
    induction d with
    | zero => intro i _; exact Nat.le_refl _
    | succ d ih =>
      intro i hi
      have h1 := ih i (by omega)
      have h2 := (h.pair (i := i + d) (by omega)).2.1
      rw [show i + d + 1 = i + (d + 1) from rfl] at h2
      omega
  intro i a ha
  have hi := (List.getElem?_eq_some_iff.1 ha).1
  have h1 := key (hs.length - 1 - i) i (by omega)
  rw [show i + (hs.length - 1 - i) = hs.length - 1 by omega] at h1
  have h2 : hs.getD i 0 = a := by rw [List.getD_eq_getElem?_getD, ha]; rfl
  omega
theorem pvs_is (cs : List Int) (L : List (List UInt8)) : ∃ I H c, Pvs cs L I H c := by
  cases hb : mayB cs with
  | false => exact ⟨_, _, _, .no hb⟩
  | true =>
    obtain ⟨hs, e, HH⟩ := mayB_hds hb
    by_cases h : L.length < hs.getD (hs.length - 1) 0
    · exact ⟨_, _, _, .over hs e HH h⟩
    · refine ⟨_, _, _, .ok hs e HH fun x hx => ?_⟩
      obtain ⟨i, hi⟩ := List.mem_iff_getElem?.1 hx
      have := HH.le_last i x hi
      omega
theorem Pvs.few {cs : List Int} {L : List (List UInt8)} {I : List Int} {H : List (List UInt8)} {c : Int} (h : Pvs cs L I H c) : I.length ≤ 64 ∧ H.length ≤ 2583 := by
  cases h with
  | no h => simp
  | over hs e HH h => simp
  | ok hs e HH h =>
    refine ⟨by rw [ix_len]; exact HH.le, ?_⟩
    unfold pvH
    rw [List.length_map]
    exact tol_few HH (by have := HH.ne; omega)
def Pvd (w : World) (I : List Int) (H : List (List UInt8)) (c : Int) (r : Ending) (w' : World) : Prop := ∃ ai ci ah chp, r = .returned (.tuple #[ch (.slice ai I.length ci) (.slice ah H.length chp), .int .i64 c]) ∧
  OwnM 1 w' (.slice ai I.length ci) I.length (I.map fun x => .int .i64 x) ∧ OwnM 1 w' (.slice ah H.length chp) H.length (svs H) ∧ (∀ k, (Value.slice ai I.length ci).ownBlock = some k → w.heap.size ≤ k ∧ (Value.slice ah H.length chp).ownBlock ≠ some k) ∧ (∀ k, (Value.slice ah H.length chp).ownBlock = some k → w.heap.size ≤ k) ∧ Below w.heap.size w w'
theorem pvd_none {w w' : World} (hb : Below w.heap.size w w') : Pvd w [] [] 130 (.returned (.tuple #[ch (.slice none 0 0) (.slice none 0 0), .int .i64 130])) w' :=
  ⟨none, 0, none, 0, rfl, OwnM.nil 1 _, OwnM.nil 1 _, fun k e => (by cases e), fun k e => (by cases e), hb⟩
theorem ivC_ix (hs : List Nat) : ivC hs = (ix hs).map fun x => .int .i64 x := by
  unfold ivC ix
  rw [List.map_map]
  rfl
theorem row_ownC {w : World} {g : Nat} {l : List (List UInt8)} (h : Row w g l) (hl : l.length ≤ 1099511627776) : OwnM 1 w (.slice (some ⟨g, 0, none⟩) l.length l.length) l.length (svs l) := by
  refine .inr ⟨g, l.length, rfl, Nat.le_refl _, by rw [maxLen]; omega, by rw [svs_length, Nat.mul_one], ?_, ?_, h.lt⟩
  · intro j u hu
    rw [Nat.zero_add, cell_of_row _ _ _ _ _ _ h]
    simpa using hu
  · rw [Nat.mul_one]
    exact there_of_row h 0 l.length (by simp [svs])
theorem own_mC {w : World} {base : Nat} {v : Value} {cs : List Value} (h : Own w base v cs) : OwnM 1 w v cs.length cs := by
  rcases h with ⟨rfl, h⟩ | ⟨g, cap, rfl, h1, h2, h3, h4, h5, h6⟩
  · subst h; exact OwnM.nil 1 w
  · exact .inr ⟨g, cap, rfl, h2, h3, by rw [Nat.mul_one], h4, by rw [Nat.mul_one]; exact h5, h6⟩
theorem prove13_all {cs : List Int} {L : List (List UInt8)} {I : List Int} {H : List (List UInt8)} {c : Int} (P : Pvs cs L I H c) {w : World} {q h : Nat} {F : Nat → Prop} (t : TrL w q h L F) (Z : Tb w) (m : Nat) (hm : cs.length = m) (lm : m ≤ 9223372036854775807) (a : Option Addr) (cap : Nat) (hA : AtI w a cs) :
    Calls Tryz.prog 29 #[.pointer (some ⟨q, 0, none⟩), .slice a m cap] w (Pvd w I H c) := by
  cases P with
  | no hb =>
    refine (proveC_no cs m hm q a cap w hA lm hb).mono ?_
    rintro r w' ⟨rfl, hb'⟩
    exact pvd_none hb'
  | over hs e HH hl =>
    subst e
    rw [ix_len] at hm
    rw [hm] at hl
    refine (proveC_over hs HH m hm t hl a cap hA).mono ?_
    rintro r w' ⟨rfl, hb'⟩
    exact pvd_none hb'
  | ok hs e HH hl =>
    subst e
    rw [ix_len] at hm
    obtain ⟨x, rfl⟩ := hA.pos (by rw [ix_len]; have := HH.ne; omega)
    refine (proveC_ok hs HH m (told hs).length hm rfl t Z hl x cap hA).mono ?_
    rintro r w' ⟨v, G, rfl, o1, hv, rG, hG, hb⟩
    obtain ⟨ai, ci, e1, _, _⟩ := o1.shape
    subst e1
    have hk : (pvH L hs).length = (told hs).length := by unfold pvH; rw [List.length_map]
    have hf : (told hs).length ≤ 2583 := tol_few HH (by have := HH.ne; omega)
    have o2 := row_ownC rG (by omega)
    refine ⟨ai, ci, some ⟨G, 0, none⟩, (told hs).length, ?_, ?_, ?_, fun k hk' => ?_, fun k hk' => ?_, hb⟩
    · rw [ix_len, hm, hk]
    · rw [ix_len, hm, ← ivC_ix]; exact o1
    · rw [hk]
      rw [hk] at o2
      exact o2
    · rw [ix_len, hm] at hk'
      exact ⟨(hv k hk').1, fun e => (hv k hk').2 (by injection e with e; exact e.symm)⟩
    · have : G = k := Option.some.inj hk'
      omega
theorem rprove13_all {cs : List Int} {L : List (List UInt8)} {I : List Int} {H : List (List UInt8)} {c : Int} (P : Pvs cs L I H c) {w : World} {q h : Nat} {F : Nat → Prop} (t : RtL w q h L F) (m : Nat) (hm : cs.length = m) (lm : m ≤ 9223372036854775807) (a : Option Addr) (cap : Nat) (hA : AtI w a cs) :
    Calls Tryz.prog 18 #[.pointer (some ⟨q, 0, none⟩), .slice a m cap] w fun r w' => ∃ ai ci ah chp, r = .returned (.tuple #[ch (.slice ai I.length ci) (.slice ah H.length chp), .int .i64 c]) ∧
      OwnM 1 w' (.slice ai I.length ci) I.length (I.map fun x => .int .i64 x) ∧ OwnM 1 w' (.slice ah H.length chp) H.length (svs H) ∧ (∀ k, (Value.slice ai I.length ci).ownBlock = some k → w.heap.size ≤ k) ∧ (∀ k, (Value.slice ah H.length chp).ownBlock = some k → w.heap.size ≤ k) ∧ Below w.heap.size w w' := by
  cases P with
  | no hb =>
    refine (rProve_no cs m hm q a cap w hA lm hb).mono ?_
    rintro r w' ⟨rfl, hb'⟩
    exact ⟨none, 0, none, 0, rfl, OwnM.nil 1 _, OwnM.nil 1 _, fun k e => (by cases e), fun k e => (by cases e), hb'⟩
  | over hs e HH hl =>
    subst e
    rw [ix_len] at hm
    rw [hm] at hl
    refine (rProve_over hs HH m hm t hl a cap hA).mono ?_
    rintro r w' ⟨rfl, hb'⟩
    exact ⟨none, 0, none, 0, rfl, OwnM.nil 1 _, OwnM.nil 1 _, fun k e => (by cases e), fun k e => (by cases e), hb'⟩
  | ok hs e HH hl =>
    subst e
    rw [ix_len] at hm
    obtain ⟨x, rfl⟩ := hA.pos (by rw [ix_len]; have := HH.ne; omega)
    refine (rProve_ok hs HH m (told hs).length hm rfl t hl x cap hA).mono ?_
    rintro r w' ⟨ai, ci, ah, chp, rfl, o1, hv, o2, hb⟩
    have hk : (pvH L hs).length = (told hs).length := by unfold pvH; rw [List.length_map]
    have o3 := own_mC o2
    rw [svs_length, hk] at o3
    refine ⟨ai, ci, ah, chp, ?_, ?_, ?_, fun k hk' => ?_, fun k hk' => ?_, hb⟩
    · rw [ix_len, hm, hk]
    · rw [ix_len, hm, ← ivC_ix]; exact o1
    · rw [hk]; exact o3
    · rw [ix_len, hm] at hk'; exact hv k hk'
    · rw [hk] at hk'; exact o2.ge k hk'
end Chn
end Go.Proofs.YtjcapdkibbjmiaaGreatDoor
