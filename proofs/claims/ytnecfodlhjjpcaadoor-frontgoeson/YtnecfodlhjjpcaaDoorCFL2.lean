import Derived.Test.YtnecfodlhjjpcaaDoorCFL1
import Derived.Test.YtnecfodlhjjpcaaDoorCO20
import Derived.Test.YtnecfodlhjjpcaaDoorCFN1
import Derived.Test.YtnecfodlhjjpcaaDoorCK5
namespace Go.Proofs.YtnecfodlhjjpcaaDoor
open Go.RowKit
theorem Tb.next {w w' : World} (h : Tb w) (hb : Below w.heap.size w w') : Tb w' := h.below hb h.lt
/-- three edges that share nothing, from block B on -/
structure G3 (w : World) (B qe qg qc : Nat) (Le Lg Lc : List (List UInt8)) (Fe Fg Fc : Nat → Prop) : Prop where
  e : EdL w qe Le Fe
  g : EdL w qg Lg Fg
  c : EdL w qc Lc Fc
  eg : ∀ k, Fe k → ¬ Fg k
  ec : ∀ k, Fe k → ¬ Fc k
  gc : ∀ k, Fg k → ¬ Fc k
  B1 : ∀ k, Fe k → B ≤ k
  B2 : ∀ k, Fg k → B ≤ k
  B3 : ∀ k, Fc k → B ≤ k
  B0 : B ≤ w.heap.size
theorem G3.below {w w' : World} {B qe qg qc : Nat} {Le Lg Lc : List (List UInt8)} {Fe Fg Fc : Nat → Prop} (h : G3 w B qe qg qc Le Lg Lc Fe Fg Fc) (hb : Below w.heap.size w w') : G3 w' B qe qg qc Le Lg Lc Fe Fg Fc :=
  ⟨Ed.below h.e hb, Ed.below h.g hb, Ed.below h.c hb, h.eg, h.ec, h.gc, h.B1, h.B2, h.B3, Nat.le_trans h.B0 hb.size⟩
theorem G3.setE {w w' : World} {B qe qg qc : Nat} {Le Lg Lc Le' : List (List UInt8)} {Fe Fg Fc Fe' : Nat → Prop} (h : G3 w B qe qg qc Le Lg Lc Fe Fg Fc) (hm : Mov Fe w w' Fe') (he : EdL w' qe Le' Fe') : G3 w' B qe qg qc Le' Lg Lc Fe' Fg Fc ∧ Below B w w' := by
  obtain ⟨g1, g2⟩ := Ed.mov h.g hm fun k hk e => h.eg k e hk
  obtain ⟨c1, c2⟩ := Ed.mov h.c hm fun k hk e => h.ec k e hk
  obtain ⟨b1, b2⟩ := hm.below h.B0 h.B1
  exact ⟨⟨he, g1, c1, fun k hk e => g2 k e hk, fun k hk e => c2 k e hk, h.gc, b2, h.B2, h.B3, Nat.le_trans h.B0 b1.size⟩, b1⟩
theorem G3.setG {w w' : World} {B qe qg qc : Nat} {Le Lg Lc Lg' : List (List UInt8)} {Fe Fg Fc Fg' : Nat → Prop} (h : G3 w B qe qg qc Le Lg Lc Fe Fg Fc) (hm : Mov Fg w w' Fg') (he : EdL w' qg Lg' Fg') : G3 w' B qe qg qc Le Lg' Lc Fe Fg' Fc ∧ Below B w w' := by
  obtain ⟨e1, e2⟩ := Ed.mov h.e hm h.eg
  obtain ⟨c1, c2⟩ := Ed.mov h.c hm fun k hk e => h.gc k e hk
  obtain ⟨b1, b2⟩ := hm.below h.B0 h.B2
  exact ⟨⟨e1, he, c1, e2, h.ec, fun k hk e => c2 k e hk, h.B1, b2, h.B3, Nat.le_trans h.B0 b1.size⟩, b1⟩
theorem G3.setC {w w' : World} {B qe qg qc : Nat} {Le Lg Lc Lc' : List (List UInt8)} {Fe Fg Fc Fc' : Nat → Prop} (h : G3 w B qe qg qc Le Lg Lc Fe Fg Fc) (hm : Mov Fc w w' Fc') (he : EdL w' qc Lc' Fc') : G3 w' B qe qg qc Le Lg Lc' Fe Fg Fc' ∧ Below B w w' := by
  obtain ⟨e1, e2⟩ := Ed.mov h.e hm h.ec
  obtain ⟨g1, g2⟩ := Ed.mov h.g hm h.gc
  obtain ⟨b1, b2⟩ := hm.below h.B0 h.B3
  exact ⟨⟨e1, g1, he, h.eg, e2, g2, h.B1, h.B2, b2, Nat.le_trans h.B0 b1.size⟩, b1⟩
theorem fLoadL {L : List (List UInt8)} (hs : Tree.Hs L) (hL : L.length ≤ 1099511627776) (x : Addr) (cap : Nat) (w : World) (hA : At w (some x) (Cut.cmp L 0)) (Z : Tb w) :
    Calls Tryd.prog 11 #[.int .i64 ((L.length : Nat) : Int), .slice (some x) (Cut.cmp L 0).length cap] w fun r w' => ∃ q, r = .returned (.tuple #[.pointer (some ⟨q, 0, none⟩), .int .i64 0]) ∧ EdL w' q L (fun k => w.heap.size ≤ k ∧ k < w'.heap.size) ∧ Below w.heap.size w w' := by
  have hl : (Cut.cmp L 0).length = (Cut.cut 0 L.length).length := by rw [Cut.cmp_length, Nat.zero_add]
  have h81 := Cut.cut_len (a := 0) (b := L.length) hL (Nat.zero_le _)
  refine (fLoad_any (L.length : Int) (Cut.cmp L 0) (some x) cap w (by omega) hA Z).mono ?_
  rintro r w' ⟨hb, h⟩
  rw [if_pos (by unfold ldE; rw [if_pos (by omega), Int.toNat_natCast, if_pos hl, if_pos (hsB_of (Cut.cmp_hs hs))]), Int.toNat_natCast] at h
  obtain ⟨q, h1, h2⟩ := h
  exact ⟨q, h1, h2, hb⟩
theorem fCloneL {w : World} {q : Nat} {L : List (List UInt8)} {F : Nat → Prop} (h : EdL w q L F) : Calls Tryd.prog 14 #[.pointer (some ⟨q, 0, none⟩)] w fun r w' => ∃ q', r = .returned (.pointer (some ⟨q', 0, none⟩)) ∧ EdL w' q' L (fun k => w.heap.size ≤ k ∧ k < w'.heap.size) ∧ Below w.heap.size w w' := fClone_any h
theorem Tabs.next' {w w' : World} (h : Tabs w) (hb : Below w.heap.size w w') : Tabs w' := h.below hb h.lt
set_option maxRecDepth 100000 in
set_option maxHeartbeats 4000000 in
theorem goesOn_any (cs ds : List Int) (other : Int) (a d : Option Addr) (ca cd : Nat) (w : World) (hcs : cs.length ≤ 9223372036854775807) (hds : ds.length ≤ 9223372036854775807) (hA : AtI w a cs) (hD : AtI w d ds) (Z : Tb w) :
    Calls Tryd.prog 3 #[.slice a cs.length ca, .slice d ds.length cd, .int .i64 other] w fun e w' => e = .returned (.bool true) ∧ Below w.heap.size w w' := by
  have HZ := hid Z
  have HA := hid hA
  have HD := hid hD
  clear Z hA hD
  go_enter Tryd.func3, Tryd.ntmps3
  go_wp2_with (go_at_call 7; fail)
  refine (fknown_any _ HZ.out.t).mono ?_
  rintro e w1 ⟨rfl, hw1⟩
  have B1 := hid hw1
  have Z1 := hid (HZ.out.next hw1)
  have A1 := hid (HA.out.below hw1 (Nat.le_refl _))
  have D1 := hid (HD.out.below hw1 (Nat.le_refl _))
  clear hw1 HA HD
  go_wp2_with (go_at_call 8; fail)
  refine (numbered_any cs 150 (by omega) a ca _ hcs A1.out).mono ?_
  rintro e w2 ⟨v, rfl, hO, hw2⟩
  have hs := hid (nums_hs cs 150)
  have hlen := nums_len cs 150
  have B2 := hid (B1.out.trans (hw2.mono B1.out.size))
  have Z2 := hid (Z1.out.next hw2)
  have D2 := hid (D1.out.below hw2 (Nat.le_refl _))
  obtain ⟨a2, cap2, rfl, hA2, hl2, hc2⟩ := hO.at
  have O2 := hid hO
  have A2 := hid hA2
  clear hO hA2 hw2 B1 Z1 A1 D1
  generalize hL : nums cs 150 = L at *
  clear hL
  obtain ⟨n, hn⟩ : ∃ n : Nat, Hid (L.length = n) := ⟨_, rfl⟩
  rw [hn.out] at hlen hl2 ⊢
  have hn150 : n ≤ 150 := by omega
  clear hlen
  go_wp2_with (go_at_call 8; fail)
  refine (numbered_any ds 100 (by omega) d cd _ hds D2.out).mono ?_
  rintro e w3 ⟨v, rfl, hO, hw3⟩
  have hsM := hid (nums_hs ds 100)
  have hlenM := nums_len ds 100
  have B3 := hid (B2.out.trans (hw3.mono B2.out.size))
  have Z3 := hid (Z2.out.next hw3)
  have A3 := hid (A2.out.below hw3 (Nat.le_refl _))
  have O3 := hid (O2.out.below hw3 (Nat.le_refl _))
  obtain ⟨a3, cap3, rfl, hA3, hl3, hc3⟩ := hO.at
  have M3 := hid hA3
  clear hO hA3 hw3 B2 Z2 A2 D2 O2
  generalize hM : nums ds 100 = M at *
  clear hM
  have hT3 := Z3.out.lt
  obtain ⟨m, hm⟩ : ∃ m : Nat, Hid (M.length = m) := ⟨_, rfl⟩
  rw [hm.out] at hlenM hl3 ⊢
  have hm100 : m ≤ 100 := by omega
  clear hlenM
  go_wp2_with (go_at_call 9; fail)
  refine (fNew_any _ hT3).mono ?_
  rintro e w4 ⟨rfl, E4, hw4⟩
  have E4 := hid (EdL.nil E4)
  have b4 := hid hw4
  clear hw4
  go_wp2
  go_loopw [11] (fun i w' => ∃ (j : Nat) (F : Nat → Prop), i = .int .i64 (j : Int) ∧ j ≤ n ∧ Hid (EdL w' w3.heap.size (L.take j) F) ∧ Hid (∀ k, F k → w3.heap.size ≤ k) ∧ Hid (Below w3.heap.size w3 w')) (fun i _ => n - (intOf i).toNat)
  case atStart => exact ⟨0, _, rfl, by omega, E4, fun k hk => hk.1, b4⟩
  case round =>
    clear E4 b4
    obtain ⟨j, F, rfl, hj, hE, hF, hB⟩ := hrel
    by_cases hjn : j < n
    · have q0 : (j : Int) < (n : Int) := by omega
      have A5 := A3.out.below hB.out (Nat.le_refl _)
      obtain ⟨y, rfl⟩ := A5.pos (by have := hn.out; omega)
      obtain ⟨s, hsj, hcell⟩ := A5.cell j (by have := hn.out; omega)
      have T5 := (Z3.out.below hB.out hT3).t
      have h32 : s.data.toList.length = 32 := by rw [hsj.out]; exact hs.out _ (List.getElem_mem _)
      have i1 := fAddL hE.out s.data.toList h32 (by rw [List.length_take]; omega) T5
      rw [show sv s.data.toList = .string s from by cases s; rfl] at i1
      have e1 : Hid (L.take j ++ [s.data.toList] = L.take (j + 1)) := by
        unfold Hid
        rw [hsj.out, List.take_append_getElem]
      rw [e1.out] at i1
      clear hsj A5 h32 e1 A3 M3 O3
      go_wp2_with (go_at_call 10; refine i1.mono ?_; rintro e w6 ⟨rfl, F6, E6, M6⟩)
      obtain ⟨b6, f6⟩ := M6.below hB.out.size hF.out
      exact ⟨⟨j + 1, F6, by go_num, by omega, E6, f6, hB.out.trans b6⟩, by simp [intOf]; omega⟩
    · obtain rfl : j = n := by omega
      have q0 : ¬ (j : Int) < (j : Int) := by omega
      rw [← hn.out, List.take_length] at hE
      have Zr := hid (Z3.out.below hB.out hT3)
      have i1 := fSize_any hE.out
      rw [hn.out] at i1
      go_wp2_with (first
        | (go_at_call 12; refine i1.mono ?_; rintro e w5 ⟨rfl, rfl⟩)
        | (go_at_call 13; fail))
      refine (fNodes_any hE.out).mono ?_
      rintro e w6 ⟨rfl, R6, hw6⟩
      have B6 := hid (hB.out.trans (hw6.mono hB.out.size))
      have E6 := hid (Ed.below hE.out hw6)
      have Z6 := hid (Zr.out.next hw6)
      have A6 := hid R6.at
      clear R6 hw6 hE Zr i1
      have i2 := fLoadL hs.out (by have := hn.out; omega) _ (Cut.cmp L 0).length _ A6.out Z6.out
      rw [hn.out] at i2
      go_wp2_with (go_at_call 11; refine i2.mono ?_; rintro e w7 ⟨qg, rfl, E7g, hw7⟩)
      have E7 := hid (Ed.below E6.out hw7)
      have E7g := hid E7g
      have B7 := hid (B6.out.trans (hw7.mono B6.out.size))
      have Z7 := hid (Z6.out.next hw7)
      have s7 := hid hw7.size
      clear i2 hw7
      go_wp2_with (go_at_call 14; refine (fCloneL E7.out).mono ?_; rintro e w8 ⟨qc, rfl, E8c, hw8⟩)
      have G8 : Hid (G3 w8 w3.heap.size w3.heap.size qg qc L L L F (fun k => w6.heap.size ≤ k ∧ k < w7.heap.size) (fun k => w7.heap.size ≤ k ∧ k < w8.heap.size)) := by
        have s6 := B6.out.size
        have s8 := hw8.size
        have s7' := s7.out
        refine ⟨Ed.below E7.out hw8, Ed.below E7g.out hw8, E8c, fun k hk e => ?_, fun k hk e => ?_, fun k hk e => ?_, hF.out, fun k hk => ?_, fun k hk => ?_, by omega⟩
        · have := (Ed.lt E6.out k hk).2; omega
        · have := (Ed.lt E7.out k hk).2; omega
        · omega
        · omega
        · omega
      have B8 := hid (B7.out.trans (hw8.mono B7.out.size))
      have Z8 := hid (Z7.out.next hw8)
      clear E8c hw8 E7 E7g B7 Z7 E6 B6 Z6 A6 s7 hF hB
      obtain ⟨R, hR⟩ : ∃ R, Hid (Tree.root L = R) := ⟨_, rfl⟩
      generalize (fun k => w6.heap.size ≤ k ∧ k < w7.heap.size) = Fg at *
      generalize (fun k => w7.heap.size ≤ k ∧ k < w8.heap.size) = Fc at *
      go_wp2_with (go_at_call 15; fail)
      refine (fRootL G8.out.e Z8.out.t hR).mono ?_
      rintro e w9 ⟨rfl, hw9⟩
      have G9 := hid (G8.out.below hw9)
      have B9 := hid (B8.out.trans (hw9.mono B8.out.size))
      clear hw9 G8 B8 Z8
      obtain ⟨x, hx⟩ : ∃ x, Hid (lf other = x) := ⟨_, rfl⟩
      have lx : x.length = 32 := by rw [← hx.out, lf_length]
      go_wp2_with (go_at_call 16; fail)
      refine (lleaf_at other x hx _).mono ?_
      rintro e w10 ⟨rfl, hw10⟩
      have G10 := hid (G9.out.below hw10)
      have B10 := hid (B9.out.trans (hw10.mono B9.out.size))
      have Z10 := hid (Z3.out.below B10.out hT3)
      clear hw10 G9 B9
      go_wp2_with (go_at_call 10; fail)
      refine (fAddL G10.out.c x lx (by have := hn.out; omega) Z10.out.t).mono ?_
      rintro e w11 ⟨rfl, Fc', E11, M11⟩
      obtain ⟨g11, b11⟩ := G10.out.setC M11 E11
      have G11 := hid g11
      have B11 := hid (B10.out.trans b11)
      have Z11 := hid (Z3.out.below B11.out hT3)
      clear g11 b11 M11 E11 G10 B10 Z10
      rw [svS R]
      have rr1 : ((ByteArray.mk R.toArray).toList != (ByteArray.mk R.toArray).toList) = false := by simp
      have rr2 : ((ByteArray.mk R.toArray).toList == (ByteArray.mk R.toArray).toList) = true := by simp
      have i3 := fRootL G11.out.e Z11.out.t hR
      have i4 := fun w' (G : G3 w' w3.heap.size w3.heap.size qg qc L L (L ++ [x]) F Fg Fc') Z => fRootL G.g Z hR
      have i5 := fun w' (G : G3 w' w3.heap.size w3.heap.size qg qc L L (L ++ [x]) F Fg Fc') => fSize_any G.c
      rw [List.length_append, hn.out, show [x].length = 1 from rfl, show ((j + 1 : Nat) : Int) = (j : Int) + 1 from by omega] at i5
      rw [svS R] at i3 i4
      have jj : ((j : Int) + 1 != (j : Int) + 1) = false := by simp
      have jj2 : IntKind.i64.wrap ((j : Int) + 1) = (j : Int) + 1 := wrap_small _ (by omega) (by omega)
      go_wp2_with (first
        | (go_at_call 15; (with_reducible refine i3.mono ?_); rintro e w12 ⟨rfl, hw12⟩; have G12 := hid (G11.out.below hw12); have Z12 := hid (Z11.out.next hw12))
        | (go_at_call 15; (with_reducible refine (i4 _ G12.out Z12.out.t).mono ?_); rintro e w13 ⟨rfl, hw13⟩; have G13 := hid (G12.out.below hw13))
        | (go_at_call 12; refine (i5 _ G13.out).mono ?_; rintro e w14 ⟨rfl, rfl⟩))
      have B13 := hid (B11.out.trans ((hw12.trans (hw13.mono hw12.size)).mono B11.out.size))
      clear hw12 hw13 G12 Z12 G11 B11 Z11 i3 i4 i5 rr1 rr2 jj jj2 A3
      go_loopw [17] (fun i w' => ∃ (t : Nat) (F1 F2 : Nat → Prop), i = .int .i64 (t : Int) ∧ t ≤ m ∧ Hid (G3 w' w3.heap.size w3.heap.size qg qc (L ++ M.take t) (L ++ M.take t) (L ++ [x]) F1 F2 Fc') ∧ Hid (Below w3.heap.size w3 w')) (fun i _ => m - (intOf i).toNat)
      case atStart => exact ⟨0, F, Fg, rfl, by omega, by rw [List.take_zero, List.append_nil]; exact G13, B13⟩
      case round =>
        clear G13 B13
        obtain ⟨t, F1, F2, rfl, ht, hG, hB⟩ := hrel
        by_cases htm : t < m
        · have q0 : (t : Int) < (m : Int) := by omega
          have A5 := M3.out.below hB.out (Nat.le_refl _)
          obtain ⟨y, rfl⟩ := A5.pos (by have := hm.out; omega)
          obtain ⟨s, hsj, hcell⟩ := A5.cell t (by have := hm.out; omega)
          have ylt : y.block < w3.heap.size := by
            obtain ⟨z, hz, hzb, _⟩ := M3.out t _ (List.getElem?_eq_getElem (by have := hm.out; omega))
            obtain rfl := Option.some.inj hz
            exact hzb
          have T5 := (Z3.out.below hB.out hT3).t
          have h32 : s.data.toList.length = 32 := by rw [hsj.out]; exact hsM.out _ (List.getElem_mem _)
          have hl1 : (L ++ M.take t).length < 1099511627776 := by rw [List.length_append, List.length_take, hn.out]; omega
          have i1 := fAddL hG.out.e s.data.toList h32 hl1 T5
          have i2 := fun w' (G : EdL w' qg (L ++ M.take t) F2) T => fAddL G s.data.toList h32 hl1 T
          have e1 : L ++ M.take t ++ [s.data.toList] = L ++ M.take (t + 1) := by
            rw [hsj.out, List.append_assoc, List.take_append_getElem]
          rw [show sv s.data.toList = .string s from by cases s; rfl, e1] at i1 i2
          have hl2' : (L ++ M.take (t + 1)).length < 1099511627776 := by rw [List.length_append, List.length_take, hn.out]; omega
          obtain ⟨K, hK⟩ : ∃ K, Hid (L ++ M.take (t + 1) = K) := ⟨_, rfl⟩
          rw [hK.out] at i1 i2 hl2'
          clear hsj A5 h32 e1 M3 O3 T5
          go_wp2_with (go_at_call 10; fail)
          refine i1.mono ?_
          rintro e w15 ⟨rfl, F1', E15, M15⟩
          obtain ⟨g15, b15⟩ := hG.out.setE M15 E15
          have G15 := hid g15
          have B15 := hid (hB.out.trans b15)
          have c15 := (b15.cell (p := y.add t) (by rw [addr_block]; exact ylt)).trans hcell
          have Z15 := hid (Z3.out.below B15.out hT3)
          clear g15 b15 M15 E15 i1 hG hB hcell
          go_wp2_with (go_at_call 10; fail)
          refine (i2 _ G15.out.g Z15.out.t).mono ?_
          rintro e w16 ⟨rfl, F2', E16, M16⟩
          obtain ⟨g16, b16⟩ := G15.out.setG M16 E16
          have G16 := hid g16
          have B16 := hid (B15.out.trans b16)
          clear g16 b16 M16 E16 i2 G15 B15 c15 Z15
          go_wp2_with (go_at_call 13; fail)
          refine (fNodes_any G16.out.e).mono ?_
          rintro e w17 ⟨rfl, R17, hw17⟩
          have G17 := hid (G16.out.below hw17)
          have B17 := hid (B16.out.trans (hw17.mono B16.out.size))
          have A17 := hid R17.at
          clear R17 hw17 G16 B16
          go_wp2_with (go_at_call 13; fail)
          refine (fNodes_any G17.out.g).mono ?_
          rintro e w18 ⟨rfl, R18, hw18⟩
          have G18 := hid (G17.out.below hw18)
          have B18 := hid (B17.out.trans (hw18.mono B17.out.size))
          have A18 := hid R18.at
          have A17' := hid (A17.out.below hw18 (Nat.le_refl _))
          clear R18 hw18 G17 B17 A17
          have i3 := same_yes (Cut.cmp K 0) _ _ (Cut.cmp K 0).length (Cut.cmp K 0).length _ A17'.out A18.out (by have := Ed.h81 G18.out.e; omega)
          go_wp2_with (go_at_call 17; refine i3.mono ?_; rintro e w19 ⟨rfl, hw19, _⟩)
          have G19 := hid (G18.out.below hw19)
          have B19 := hid (B18.out.trans (hw19.mono B18.out.size))
          have Z19 := hid (Z3.out.below B19.out hT3)
          clear hw19 G18 B18 A17' A18 i3
          obtain ⟨R', hR'⟩ : ∃ R, Hid (Tree.root K = R) := ⟨_, rfl⟩
          have rr1 : ((ByteArray.mk R'.toArray).toList != (ByteArray.mk R'.toArray).toList) = false := by simp
          have rr2 : ((ByteArray.mk R'.toArray).toList == (ByteArray.mk R'.toArray).toList) = true := by simp
          have i4 := fRootL G19.out.e Z19.out.t hR'
          have i5 := fun w' (G : G3 w' w3.heap.size w3.heap.size qg qc K K (L ++ [x]) F1' F2' Fc') Z => fRootL G.g Z hR'
          have i6 := fun w' (G : G3 w' w3.heap.size w3.heap.size qg qc K K (L ++ [x]) F1' F2' Fc') => fSize_any G.e
          have i7 := fun w' (G : G3 w' w3.heap.size w3.heap.size qg qc K K (L ++ [x]) F1' F2' Fc') => fSize_any G.g
          rw [svS R'] at i4 i5
          have kk : ((K.length : Int) != (K.length : Int)) = false := by simp
          go_wp2_with (first
            | (go_at_call 15; (with_reducible refine i4.mono ?_); rintro e w20 ⟨rfl, hw20⟩; have G20 := hid (G19.out.below hw20); have Z20 := hid (Z19.out.next hw20))
            | (go_at_call 15; (with_reducible refine (i5 _ G20.out Z20.out.t).mono ?_); rintro e w21 ⟨rfl, hw21⟩; have G21 := hid (G20.out.below hw21))
            | (go_at_call 12; (with_reducible refine (i6 _ G21.out).mono ?_); rintro e w22 ⟨rfl, rfl⟩)
            | (go_at_call 12; (with_reducible refine (i7 _ G21.out).mono ?_); rintro e w23 ⟨rfl, rfl⟩))
          exact ⟨⟨t + 1, F1', F2', by go_num, by omega, by rw [hK.out]; exact G21, B19.out.trans ((hw20.trans (hw21.mono hw20.size)).mono B19.out.size)⟩, by simp [intOf]; omega⟩
        · obtain rfl : t = m := by omega
          have q0 : ¬ (t : Int) < (t : Int) := by omega
          clear M3
          have O5 := O3.out.below hB.out (Nat.le_refl _)
          rw [hn.out] at O5
          have hb1 := (Below.refl wr.heap.size wr).alloc (Nat.le_refl _) (.cells #[] 9)
          have O0 : Own (wr.alloc (.cells #[] 9)) wr.heap.size (.slice (some ⟨wr.heap.size, 0, none⟩) 0 0) (svs []) := by
            refine .inr ⟨wr.heap.size, 0, rfl, Nat.le_refl _, Nat.le_refl _, Nat.zero_le _, fun j v hv => (by cases hv), fun j hj => (by omega), (by rw [size_alloc]; omega)⟩
          obtain ⟨v1, w24, hap1, O24, b24⟩ := append_list (wr.alloc (.cells #[] 9)) wr.heap.size _ _ _ [] L O0 (O5.alloc _) (by rw [hn.out]; simp; omega) hb1.size
          rw [List.nil_append] at O24
          obtain ⟨va, vn, vc, rfl⟩ := own_sl O24
          have B24 := hid (hb1.trans b24)
          have HO24 := hid O24
          have hsz24 := hid B24.out.size
          clear O24 b24 hb1 O0 O5 O3
          go_wp2_with (first
            | (at_builtin; go_must (refine Lib.wpList_append_run _ rfl _ _ 24 24 rfl _ _ rfl rfl _ _ hap1 ?_); clear hap1)
            | (go_at_call 16; fail))
          refine (lleaf_at other x hx _).mono ?_
          rintro e w25 ⟨rfl, hw25⟩
          obtain ⟨v3, w26, hap2, O26, b26⟩ := append_text w25 wr.heap.size _ L x (HO24.out.below hw25 (Nat.le_refl _)) (by rw [hn.out]; omega) (Nat.le_trans hsz24.out hw25.size)
          obtain ⟨a26, c26, rfl, A26, l26, m26⟩ := O26.at
          have BW := (B24.out.trans (hw25.mono hsz24.out)).trans b26
          have G26 := hid (hG.out.below BW)
          have BB26 := hid (hB.out.trans (BW.mono hB.out.size))
          have Z26 := hid (Z3.out.below BB26.out hT3)
          have hsx : Tree.Hs (L ++ [x]) := fun y hy => by
            rcases List.mem_append.1 hy with hy | hy
            · exact hs.out y hy
            · rw [List.mem_singleton] at hy; rw [hy]; exact lx
          have i8 := Root_hs hsx (by rw [List.length_append, hn.out]; simp; omega) a26 c26 w26 l26 m26 A26 Z26.out.t
          obtain ⟨R2, hR2⟩ : ∃ R, Hid (Tree.root (L ++ [x]) = R) := ⟨_, rfl⟩
          rw [hR2.out] at i8
          rw [show sv x = Value.string ⟨x.toArray⟩ from rfl] at hap2 ⊢
          have rr2 : ((ByteArray.mk R2.toArray).toList == (ByteArray.mk R2.toArray).toList) = true := by simp
          have i9 := fun w' (hb : Below w26.heap.size w26 w') => fRootL (G26.out.below hb).c (Z26.out.next hb).t hR2
          rw [svS R2] at i8 i9
          clear BW b26 O26 A26 hsx hw25 HO24 hG hB B24
          generalize (L ++ [x]).length = n26 at *
          go_wp2_with (first
            | (at_builtin; go_must (refine Lib.wpList_append_run _ rfl _ _ 24 24 rfl _ _ rfl rfl _ _ hap2 ?_); clear hap2)
            | (go_at_call 18; refine i8.mono ?_; rintro e w27 ⟨rfl, hw27⟩)
            | (go_at_call 15; refine (i9 _ hw27).mono ?_; rintro e w28 ⟨rfl, hw28⟩))
          go_ret
          refine ⟨rfl, ?_⟩
          have b28 := BB26.out.trans ((hw27.trans (hw28.mono hw27.size)).mono BB26.out.size)
          exact B3.out.trans (b28.mono B3.out.size)
end Go.Proofs.YtnecfodlhjjpcaaDoor

namespace Go.Proofs.YtnecfodlhjjpcaaDoor
open Go.ChangeShapes Go.WideShapes Go.ChangeAt Go.RowKit
theorem gDB : Tryd.prog.globalNamed "math/bits.deBruijn64tab" = some 1 := by kernel_rfl
theorem gDBType : (Tryd.prog.globals[1]?).map (·.type) = some 110 := by kernel_rfl
theorem cells64b : Tryd.prog.cellsOf 110 = 64 := by kernel_rfl
theorem cells1b : Tryd.prog.cellsOf 5 = 1 := by kernel_rfl
def four : List (String × DataW Unit) := [("math/bits.deBruijn32tab", Rows.laid_math_bits_deBruijn32tab), ("math/bits.deBruijn64tab", Rows.laid_math_bits_deBruijn64tab), ("scrivener/digest.start", Rows.laid_scrivener_digest_start), ("scrivener/digest.rounds", Rows.laid_scrivener_digest_rounds)]
theorem tb_of {W : World} (h : laidMet Tryd.prog four W) : Tb W := by
  have h1 := laidMet.tail h
  have h2 : Lib.TabIs Tryd.prog W "math/bits.deBruijn64tab" .u8 (Lib.deBruijn64tab.map Int.ofNat) :=
    Lib.tabIs_of_head gDB gDBType Tryd.underlying110 Tryd.underlying5 cells1b cells64b (show laidMet Tryd.prog (("math/bits.deBruijn64tab", Lib.tabData .u8 (Lib.deBruijn64tab.map Int.ofNat)) :: _) W from h1)
  refine ⟨tabs_of (laidMet.tail h1), fun j hj => ?_⟩
  have := h2.cell gDB j (by rw [List.length_map]; exact hj)
  rw [this]
  simp [List.getD_eq_getElem?_getD]
  rw [List.getElem?_eq_getElem (show j < Lib.deBruijn64tab.length from hj)]; simp
/-- A WORLD FOR THE WITNESS: all four tables laid. -/
noncomputable def laidWorld5 (os : Os) : World :=
  { laidWorld os with
    heap := ((laidWorld os).heap.modify 0 (fillObj (Lib.deBruijn32tab.map fun n => Value.int .u8 (Int.ofNat n)).toArray)).modify 1 (fillObj (Lib.deBruijn64tab.map fun n => Value.int .u8 (Int.ofNat n)).toArray) }
end Go.Proofs.YtnecfodlhjjpcaaDoor
