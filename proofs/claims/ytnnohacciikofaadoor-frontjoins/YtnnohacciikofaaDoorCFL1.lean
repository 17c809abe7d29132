import Derived.Test.YtnnohacciikofaaDoorCFN6
import Derived.Test.YtnnohacciikofaaDoorCK5
import Derived.Test.YtnnohacciikofaaDoorCO20
namespace Go.Proofs.YtnnohacciikofaaDoor
open Go.RowKit
namespace Cut
open Tree
theorem cut02 : cut 0 2 = [(0, 2)] := by decide
theorem cmp2 (a b : T) : cmp [a, b] 0 = [nd a b] := by
  show List.map _ (cut 0 2) = _
  rw [cut02]
  show [root [a, b]] = _
  rw [root_cut (by simp)]
  rfl
/-- hashes of hashes are such -/
theorem cmp_hs {L : List T} {a : Nat} (h : Hs L) : Hs (cmp L a) := fun x hx => by
  obtain ⟨q, _, rfl⟩ := List.mem_map.1 hx
  exact root_hash ((h.drop _).take _)
end Cut
theorem hsB_of {l : List (List UInt8)} (h : Tree.Hs l) : hsB l = true := by
  unfold hsB
  rw [List.all_eq_true]
  intro x hx
  simpa using h x hx
/-- an edge of these leaves -/
def EdL (w : World) (q : Nat) (L : List (List UInt8)) (F : Nat → Prop) : Prop := Ed w q (Cut.cmp L 0) L.length F
theorem EdL.nil {w : World} {q : Nat} {F : Nat → Prop} (h : Ed w q [] 0 F) : EdL w q [] F := by
  unfold EdL; rw [Cut.cmp_nil]; exact h
theorem fAddL {w : World} {q : Nat} {L : List (List UInt8)} {F : Nat → Prop} (h : EdL w q L F) (x : List UInt8) (hx : x.length = 32) (hn : L.length < 1099511627776) (T : Tabs w) : Calls Tryd.prog 12 #[.pointer (some ⟨q, 0, none⟩), sv x] w fun r w' => r = .returned (.int .i64 0) ∧
      ∃ F', EdL w' q (L ++ [x]) F' ∧ Mov F w w' F' := by
  have := fAdd_any h x hx hn T
  have e := Cut.cmp_snoc (L := L) (a := 0) (x := x) (by omega)
  rw [Nat.zero_add] at e
  rw [e] at this
  refine this.mono ?_
  rintro r w' ⟨h1, F', h2, h3⟩
  refine ⟨h1, F', ?_, h3⟩
  unfold EdL
  rw [List.length_append]
  exact h2
theorem Mov.below {F F' : Nat → Prop} {w w' : World} {B : Nat} (h : Mov F w w' F') (hB : B ≤ w.heap.size) (hF : ∀ k, F k → B ≤ k) : Below B w w' ∧ ∀ k, F' k → B ≤ k := by
  refine ⟨⟨h.keep.os, h.keep.tape, h.keep.output, h.keep.size, fun k hk => h.keep.block k (by omega) fun e => ?_⟩, fun k hk => ?_⟩
  · have := hF k e; omega
  · rcases h.new k hk with e | e
    · exact hF k e
    · omega
theorem fRootL {w : World} {q : Nat} {L : List (List UInt8)} {F : Nat → Prop} (h : EdL w q L F) (T : Tabs w) {R : List UInt8} (hR : Hid (Tree.root L = R)) : Calls Tryd.prog 17 #[.pointer (some ⟨q, 0, none⟩)] w fun r w' => r = .returned (sv R) ∧ Below w.heap.size w w' := by
  have := fRoot_any h T
  rwa [Cut.cmp_root L h.most, hR.out] at this
set_option maxRecDepth 100000 in
set_option maxHeartbeats 2000000 in
theorem fknown_any (w : World) (T : Tabs w) :
    Calls Tryd.prog 5 #[] w fun e w' => e = .returned (.bool true) ∧ Below w.heap.size w w' := by
  obtain ⟨a, ha⟩ : ∃ a, Hid (lf 1 = a) := ⟨_, rfl⟩
  obtain ⟨b, hb⟩ : ∃ a, Hid (lf 2 = a) := ⟨_, rfl⟩
  have la : a.length = 32 := by rw [← ha.out, lf_length]
  have lb : b.length = 32 := by rw [← hb.out, lf_length]
  obtain ⟨N, hN⟩ : ∃ N, Hid (Tree.nd a b = N) := ⟨_, rfl⟩
  have hN2 : Hid (nodeOf a b = (N, 0)) := by
    unfold Hid nodeOf
    rw [← hN.out]
    unfold Tree.nd
    rw [if_pos ⟨la, lb⟩, if_pos ⟨la, lb⟩]
  have hroot : Hid (Tree.root [a, b] = N) := by
    unfold Hid; rw [root2, hN.out]
  have HT := hid T
  have hT := T.lt
  clear T
  go_enter Tryd.func5, Tryd.ntmps5
  go_wp2_with (go_at_call 11; refine (fNew_any _ hT).mono ?_; rintro e w1 ⟨rfl, E1, B1⟩)
  have E1 := hid (EdL.nil E1)
  have B1 := hid B1
  go_wp2_with (go_at_call 23; fail)
  refine (lleaf_at 1 a ha _).mono ?_
  rintro e w2 ⟨rfl, hw2⟩
  have B2 := hid (B1.out.trans (hw2.mono B1.out.size))
  have E2 := hid (Ed.below E1.out hw2)
  have T2 := hid (HT.out.below B2.out hT)
  clear hw2 E1 B1
  go_wp2_with (go_at_call 12; fail)
  refine (fAddL E2.out a la (by simp) T2.out).mono ?_
  rintro e w3 ⟨rfl, F3, E3, M3⟩
  obtain ⟨b3, f3⟩ := M3.below (B := w.heap.size) B2.out.size (fun k hk => hk.1)
  have B3 := hid (B2.out.trans b3)
  have E3 := hid E3
  have F3' := hid f3
  clear b3 f3 M3 E2 B2 T2
  go_wp2_with (go_at_call 23; fail)
  refine (lleaf_at 2 b hb _).mono ?_
  rintro e w4 ⟨rfl, hw4⟩
  have B4 := hid (B3.out.trans (hw4.mono B3.out.size))
  have E4 := hid (Ed.below E3.out hw4)
  have T4 := hid (HT.out.below B4.out hT)
  clear hw4 E3 B3
  go_wp2_with (go_at_call 12; fail)
  refine (fAddL E4.out b lb (by simp) T4.out).mono ?_
  rintro e w5 ⟨rfl, F5, E5, M5⟩
  obtain ⟨b5, f5⟩ := M5.below (B := w.heap.size) B4.out.size F3'.out
  have B5 := hid (B4.out.trans b5)
  have E5 : Hid (EdL w5 w.heap.size [a, b] F5) := hid E5
  clear b5 f5 M5 E4 B4 T4 F3'
  go_wp2_with (go_at_call 23; fail)
  refine (lleaf_at 1 a ha _).mono ?_
  rintro e w6 ⟨rfl, hw6⟩
  go_wp2_with (go_at_call 23; fail)
  refine (lleaf_at 2 b hb _).mono ?_
  rintro e w7 ⟨rfl, hw7⟩
  have H7 := hid (hw6.trans (hw7.mono hw6.size))
  have B7 := hid (B5.out.trans (H7.out.mono B5.out.size))
  have E7 := hid (Ed.below E5.out H7.out)
  have T7 := hid (HT.out.below B7.out hT)
  clear hw6 hw7 H7 E5 B5
  go_wp2_with (go_at_call 24; fail)
  refine (node_at hN2 _ T7.out).mono ?_
  rintro e w8 ⟨rfl, hw8⟩
  have B8 := hid (B7.out.trans (hw8.mono B7.out.size))
  have E8 := hid (Ed.below E7.out hw8)
  clear hw8 E7 B7 T7
  go_wp2_with (go_at_call 16; fail)
  refine (fNodes_any E8.out).mono ?_
  rintro e w9 ⟨rfl, R9, hw9⟩
  have B9 := hid (B8.out.trans (hw9.mono B8.out.size))
  have E9 := hid (Ed.below E8.out hw9)
  have T9 := hid (HT.out.below B9.out hT)
  rw [Cut.cmp2, hN.out] at R9
  have c9 := R9.cell (j := 0) (p := N) rfl
  have e1 : (Cut.cmp [a, b] 0).length = 1 := by rw [Cut.cmp2]; rfl
  rw [e1]
  have hlt9 := R9.lt
  clear hw9 E8 B8 R9
  have i1 := fSize_any (w := w9) E9.out
  have i2 := fRootL E9.out T9.out hroot
  rw [svS N] at c9 i2
  rw [svS N]
  rw [show ([a, b] : List (List UInt8)).length = 2 from rfl] at i1
  go_wp2_with (first
    | (go_at_call 18; refine i1.mono ?_; rintro e w10 ⟨rfl, rfl⟩)
    | (go_at_call 17; refine i2.mono ?_; rintro e w11 ⟨rfl, hw11⟩))
  go_ret
  exact ⟨rfl, B9.out.trans (hw11.mono B9.out.size)⟩
end Go.Proofs.YtnnohacciikofaaDoor

namespace Go.Proofs.YtnnohacciikofaaDoor
open Go.RowKit
theorem Tb.next {w w' : World} (h : Tb w) (hb : Below w.heap.size w w') : Tb w' := h.below hb h.lt
/-- three edges that share nothing, from block B on -/
structure G3 (w : World) (B qe qg qc : Nat) (Le Lg Lc : List (List UInt8)) (Fe Fg Fc : Nat → Prop) : Prop where
  e : EdL w qe Le Fe
  g : EdL w qg Lg Fg
  c : EdL w qc Lc Fc
  eg : ∀ k, Fe k → ¬ Fg k
  ec : ∀ k, Fe k → ¬ Fc k
  gc : ∀ k, Fg k → ¬ Fc k
  B1 : ∀ k, Fe k → B ≤ k
  B2 : ∀ k, Fg k → B ≤ k
  B3 : ∀ k, Fc k → B ≤ k
  B0 : B ≤ w.heap.size
theorem G3.below {w w' : World} {B qe qg qc : Nat} {Le Lg Lc : List (List UInt8)} {Fe Fg Fc : Nat → Prop} (h : G3 w B qe qg qc Le Lg Lc Fe Fg Fc) (hb : Below w.heap.size w w') : G3 w' B qe qg qc Le Lg Lc Fe Fg Fc :=
  ⟨Ed.below h.e hb, Ed.below h.g hb, Ed.below h.c hb, h.eg, h.ec, h.gc, h.B1, h.B2, h.B3, Nat.le_trans h.B0 hb.size⟩
theorem G3.setE {w w' : World} {B qe qg qc : Nat} {Le Lg Lc Le' : List (List UInt8)} {Fe Fg Fc Fe' : Nat → Prop} (h : G3 w B qe qg qc Le Lg Lc Fe Fg Fc) (hm : Mov Fe w w' Fe') (he : EdL w' qe Le' Fe') : G3 w' B qe qg qc Le' Lg Lc Fe' Fg Fc ∧ Below B w w' := by
  obtain ⟨g1, g2⟩ := Ed.mov h.g hm fun k hk e => h.eg k e hk
  obtain ⟨c1, c2⟩ := Ed.mov h.c hm fun k hk e => h.ec k e hk
  obtain ⟨b1, b2⟩ := hm.below h.B0 h.B1
  exact ⟨⟨he, g1, c1, fun k hk e => g2 k e hk, fun k hk e => c2 k e hk, h.gc, b2, h.B2, h.B3, Nat.le_trans h.B0 b1.size⟩, b1⟩
theorem G3.setG {w w' : World} {B qe qg qc : Nat} {Le Lg Lc Lg' : List (List UInt8)} {Fe Fg Fc Fg' : Nat → Prop} (h : G3 w B qe qg qc Le Lg Lc Fe Fg Fc) (hm : Mov Fg w w' Fg') (he : EdL w' qg Lg' Fg') : G3 w' B qe qg qc Le Lg' Lc Fe Fg' Fc ∧ Below B w w' := by
  obtain ⟨e1, e2⟩ := Ed.mov h.e hm h.eg
  obtain ⟨c1, c2⟩ := Ed.mov h.c hm fun k hk e => h.gc k e hk
  obtain ⟨b1, b2⟩ := hm.below h.B0 h.B2
  exact ⟨⟨e1, he, c1, e2, h.ec, fun k hk e => c2 k e hk, h.B1, b2, h.B3, Nat.le_trans h.B0 b1.size⟩, b1⟩
theorem G3.setC {w w' : World} {B qe qg qc : Nat} {Le Lg Lc Lc' : List (List UInt8)} {Fe Fg Fc Fc' : Nat → Prop} (h : G3 w B qe qg qc Le Lg Lc Fe Fg Fc) (hm : Mov Fc w w' Fc') (he : EdL w' qc Lc' Fc') : G3 w' B qe qg qc Le Lg Lc' Fe Fg Fc' ∧ Below B w w' := by
  obtain ⟨e1, e2⟩ := Ed.mov h.e hm h.ec
  obtain ⟨g1, g2⟩ := Ed.mov h.g hm h.gc
  obtain ⟨b1, b2⟩ := hm.below h.B0 h.B3
  exact ⟨⟨e1, g1, he, h.eg, e2, g2, h.B1, h.B2, b2, Nat.le_trans h.B0 b1.size⟩, b1⟩
theorem fLoadL {L : List (List UInt8)} (hs : Tree.Hs L) (hL : L.length ≤ 1099511627776) (x : Addr) (cap : Nat) (w : World) (hA : At w (some x) (Cut.cmp L 0)) (Z : Tb w) :
    Calls Tryd.prog 59 #[.int .i64 ((L.length : Nat) : Int), .slice (some x) (Cut.cmp L 0).length cap] w fun r w' => ∃ q, r = .returned (.tuple #[.pointer (some ⟨q, 0, none⟩), .int .i64 0]) ∧ EdL w' q L (fun k => w.heap.size ≤ k ∧ k < w'.heap.size) ∧ Below w.heap.size w w' := by
  have hl : (Cut.cmp L 0).length = (Cut.cut 0 L.length).length := by rw [Cut.cmp_length, Nat.zero_add]
  have h81 := Cut.cut_len (a := 0) (b := L.length) hL (Nat.zero_le _)
  refine (fLoad_any (L.length : Int) (Cut.cmp L 0) (some x) cap w (by omega) hA Z).mono ?_
  rintro r w' ⟨hb, h⟩
  rw [if_pos (by unfold ldE; rw [if_pos (by omega), Int.toNat_natCast, if_pos hl, if_pos (hsB_of (Cut.cmp_hs hs))]), Int.toNat_natCast] at h
  obtain ⟨q, h1, h2⟩ := h
  exact ⟨q, h1, h2, hb⟩
theorem fCloneL {w : World} {q : Nat} {L : List (List UInt8)} {F : Nat → Prop} (h : EdL w q L F) : Calls Tryd.prog 44 #[.pointer (some ⟨q, 0, none⟩)] w fun r w' => ∃ q', r = .returned (.pointer (some ⟨q', 0, none⟩)) ∧ EdL w' q' L (fun k => w.heap.size ≤ k ∧ k < w'.heap.size) ∧ Below w.heap.size w w' := fClone_any h
theorem Tabs.next' {w w' : World} (h : Tabs w) (hb : Below w.heap.size w w') : Tabs w' := h.below hb h.lt
end Go.Proofs.YtnnohacciikofaaDoor
