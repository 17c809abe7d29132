import Derived.Test.YtdbbemcddhgbcaaGreatDoorPkND9
import Derived.Test.YtdbbemcddhgbcaaGreatDoorPkNE2
import Derived.BigQuiet
import Derived.OwnWalk
import Derived.Test.YtdbbemcddhgbcaaGreatDoorPkX7
import Derived.Test.YtdbbemcddhgbcaaGreatDoorPkND1
import Derived.Lib.AtoiErrMem
/- Layer 22: NotePrints' walk (known is asked for) -/
namespace Go.Proofs.YtdbbemcddhgbcaaGreatDoor
open Go.RowKit Go.Shelf
namespace Nt
set_option maxRecDepth 100000 in
set_option maxHeartbeats 16000000 in
theorem notePrints_law {E : Es} (hk : ∀ w' : World, Nw w' E → Calls Tryz.prog 6 #[] w' fun q u => q = .returned (.bool true) ∧ Below w'.heap.size w' u)
    (O R : ByteArray) (z : Int) (hO : O.size ≤ 9223372036854775807) (hR : R.size ≤ 140737488355000) (hz1 : -9223372036854775808 ≤ z) (hz2 : z ≤ 9223372036854775807) (S : List Sg) (n : Nat) (hn : Hid (S.length = n)) (hn2 : n ≤ 4398046511000) (hS : ∀ x ∈ S, x.1.size ≤ 9223372036854775807 ∧ x.2.size ≤ 140737488355000) (a : Option Addr) (c : Nat) (which : Int) (hw1 : -9223372036854775808 ≤ which) (hw2 : which ≤ 9223372036854775807) (w : World) (h : Nw w E) (hA : AtS w a S) (hF : AtF w a S) :
    Calls Tryz.prog 3 #[nv O z R (.slice a n c), .int .i64 which] w fun q w' => q = .returned (.bool true) ∧ Below w.heap.size w w' := by
  have b0 := (Below.refl w.heap.size w).alloc (Nat.le_refl _) (.cells #[.string O, .int .i64 z, .string R, .slice a n c] 26)
  have s0 := Bx.new w O z R (.slice a n c)
  have hA := hA.below b0
  have hF := hF.below b0
  have h := h.below b0
  obtain ⟨W, hW⟩ : ∃ W, w.alloc (.cells #[.string O, .int .i64 z, .string R, .slice a n c] 26) = W := ⟨_, rfl⟩
  rw [hW] at b0 s0 hA hF h
  obtain ⟨g, hg⟩ : ∃ g, w.heap.size = g := ⟨_, rfl⟩
  rw [hg] at s0
  have cs : ∀ w', Below W.heap.size W w' → w'.cell? ⟨g, 0, none⟩ = some (.string O) ∧ w'.cell? ⟨g, 1, none⟩ = some (.int .i64 z) ∧ w'.cell? ⟨g, 2, none⟩ = some (.string R) ∧ w'.cell? ⟨g, 3, none⟩ = some (.slice a n c) := fun w' b => by
    have x1 := s0.below b
    exact ⟨x1.c0, x1.c1, x1.c2, x1.c3⟩
  have i1 := hk W h
  have i2 := fun (w' : World) (b : Below W.heap.size W w') => prints22_any O R z hO S n hn hn2 (fun x hx => by have := hS x hx; omega) a c w' (h.below b) (hA.below b) (hF.below b)
  have i3 := fun (w' : World) (b : Below W.heap.size W w') => fitted22_any O R z hO hR hz1 hz2 S n hn hn2 hS a c w' (hA.below b)
  have CS := hid cs
  have HB := hid b0
  have HNw := hid h
  have HG := hid hg
  have HW := hid hW
  clear cs b0 s0 hA hF h hg hW hk
  unfold nv at *
  go_enter Tryz.func3, Tryz.ntmps3
  go_upto_region 1 with fail
  rw [HW.out, HG.out]
  go_upto_region 2 with (go_at_call 6; (refine i1.mono ?_); rintro q w1 ⟨rfl, b1⟩)
  have B1 := hid b1
  obtain ⟨p0, p1, p2, p3⟩ := CS.out w1 b1
  clear b1 i1
  go_upto_region 3 with (go_at_call 7; (refine (i2 w1 B1.out).mono ?_); rintro q w2 ⟨rfl, b2⟩)
  have B2 := hid (B1.out.trans (b2.mono B1.out.size))
  clear b2 p0 p1 p2 p3 i2
  obtain ⟨p0, p1, p2, p3⟩ := CS.out w2 B2.out
  go_upto_region 4 with (go_at_call 8; (refine (i3 w2 B2.out).mono ?_); rintro q w3 ⟨⟨O2, z2, R2, S2, a2, c2, rfl, hA2, hF2, hL2, hO2, hR2, hz2', hS2⟩, b3⟩)
  have B3 := hid (B2.out.trans (b3.mono B2.out.size))
  have bV := (Below.refl w3.heap.size w3).alloc (Nat.le_refl _) (.cells #[.string O2, .int .i64 z2, .string R2, .slice a2 S2.length c2] 26)
  have sV := Bx.new w3 O2 z2 R2 (.slice a2 S2.length c2)
  obtain ⟨V, hV⟩ : ∃ V, w3.alloc (.cells #[.string O2, .int .i64 z2, .string R2, .slice a2 S2.length c2] 26) = V := ⟨_, rfl⟩
  obtain ⟨g7, hg7⟩ : ∃ g7, w3.heap.size = g7 := ⟨_, rfl⟩
  have hA2 := hA2.below bV
  have hF2 := hF2.below bV
  have B3V := B3.out.trans (bV.mono B3.out.size)
  rw [hV] at bV sV hA2 hF2 B3V ⊢
  rw [hg7] at sV ⊢
  have gl7 : g7 < V.heap.size := lt_of_heap sV
  have hNV := HNw.out.below B3V
  have hO2' : O2.size ≤ 9223372036854775807 := by omega
  have hS2' : ∀ x ∈ S2, x.1.size ≤ 9223372036854775807 ∧ x.2.size ≤ 9223372036854775000 := fun x hx => by have := hS2 x hx; omega
  obtain ⟨k, hk⟩ : ∃ k, S2.length = k := ⟨_, rfl⟩
  rw [hk] at sV hL2 ⊢
  have i4 := prints22_any O2 R2 z2 hO2' S2 k hk (by omega) hS2' a2 c2 V hNV hA2 hF2
  have cs : ∀ w', Below V.heap.size V w' → w'.cell? ⟨g7, 0, none⟩ = some (.string O2) ∧ w'.cell? ⟨g7, 1, none⟩ = some (.int .i64 z2) ∧ w'.cell? ⟨g7, 2, none⟩ = some (.string R2) ∧ w'.cell? ⟨g7, 3, none⟩ = some (.slice a2 k c2) := fun w' b => by
    have x1 := sV.below b
    exact ⟨x1.c0, x1.c1, x1.c2, x1.c3⟩
  have CV := hid cs
  have HBV := hid (HB.out.trans (B3V.mono HB.out.size))
  have HNV := hid hNV
  have HA2 := hid hA2
  have HF2 := hid hF2
  have HK := hid hk
  have HS2 := hid hS2'
  have HO2 := hid hO2'
  have HG7 := hid gl7
  have HL2 := hid hL2
  clear bV sV hA2 hF2 B3V hNV hO2' hS2' cs hk hV hg7 gl7 b3 i3 p0 p1 p2 p3 hz2' hR2 hO2 hS2 hL2
  obtain ⟨p0, p1, p2, p3⟩ := CV.out V (Below.refl _ _)
  go_upto_region 5 with (go_at_call 7; (refine i4.mono ?_); rintro q w4 ⟨rfl, b4⟩)
  have B4 := hid b4
  obtain ⟨p0, p1, p2, p3⟩ := CV.out w4 b4
  clear b4 i4
  by_cases k0 : k = 0
  · subst k0
    go_wp2
    go_ret
    exact ⟨rfl, HBV.out.trans (B4.out.mono HBV.out.size)⟩
  · have k1 : (0 : Int) < (k : Int) := by omega
    go_upto_region 8 with fail
    have b5 := (Below.refl w4.heap.size w4).alloc (Nat.le_refl _) (.cells #[.string O2, .int .i64 z2, .string R2, .slice a2 k c2] 26)
    have s5 := Bx.new w4 O2 z2 R2 (.slice a2 k c2)
    go_upto_region 9 with fail
    obtain ⟨Y, hY⟩ : ∃ Y, w4.alloc (.cells #[.string O2, .int .i64 z2, .string R2, .slice a2 k c2] 26) = Y := ⟨_, rfl⟩
    obtain ⟨g11, hg11⟩ : ∃ g11, w4.heap.size = g11 := ⟨_, rfl⟩
    have BY := B4.out.trans (b5.mono B4.out.size)
    rw [hY] at b5 s5 BY ⊢
    have hV4 := B4.out.size
    rw [hg11] at s5 hV4 ⊢
    clear b5 hY B4 p0 p1 p2 p3
    obtain ⟨v1, w5, r1, o5, gr5⟩ := append_sgs Y (.slice none 0 0) [] S2 a2 c2 (.inl ⟨rfl, rfl, rfl⟩) (HF2.out.below BY) (by have := HL2.out; rw [HK.out]; simp; omega)
    rw [List.nil_append, HK.out] at o5
    rw [HK.out] at r1
    obtain ⟨B5, f5⟩ := grow_below gr5 (Below.refl _ _) (fun q hq => by cases hq)
    obtain ⟨gy, cy, rfl, _, hgy⟩ := o5.cell (j := 0) (List.getElem?_eq_getElem (by rw [sgs_len, HK.out]; omega))
    have hgy2 : Y.heap.size ≤ gy := f5 gy rfl
    have g11l : g11 < Y.heap.size := lt_of_heap s5
    have s55 := s5.below B5
    have k5 := s55.c3
    have z5 : w5.frozen? ⟨g11, 3, none⟩ = false := frozen_of_row _ _ _ _ _ s55
    have E5 := setCell_eq_setRow w5 g11 3 _ 26 (0, 0) (.slice (some ⟨gy, 0, none⟩) k cy) s55
    have cb5 : But g11 w5 (w5.setCell ⟨g11, 3, none⟩ (.slice (some ⟨gy, 0, none⟩) k cy)) := (But.refl g11 w5).setCell _ _
    have s6 : Bx (w5.setCell ⟨g11, 3, none⟩ (.slice (some ⟨gy, 0, none⟩) k cy)) g11 O2 z2 R2 (.slice (some ⟨gy, 0, none⟩) k cy) := by rw [E5]; exact setRow_heap _ _ _ _ _ _ s55
    have o6 := o5.kept cb5.size (fun q hq => cb5.block q (o5.lt q hq) (by have := f5 q hq; omega))
    have B6 : Below V.heap.size V (w5.setCell ⟨g11, 3, none⟩ (.slice (some ⟨gy, 0, none⟩) k cy)) := (BY.trans (B5.mono BY.size)).setCell hV4 _
    have y7 : Y.cell? ⟨g7, 3, none⟩ = some (.slice a2 k c2) := (CV.out Y BY).2.2.2
    have S6 := hid s6
    have O6 := hid o6
    have B6 := hid B6
    have GY := hid (show V.heap.size ≤ g11 ∧ g11 < gy from ⟨hV4, by omega⟩)
    clear s5 o5 gr5 B5 f5 hgy hgy2 g11l s55 E5 cb5 s6 o6 BY hV4
    go_upto_region 10 with ((with_reducible show wpList _ _ _ (Oper.mk _ (Op.call { callee := Callee.builtin Builtin.append, args := _, argTypes := #[24, 24] }) _ _ _ _ :: _) _ _); (refine Lib.wpList_append_run _ rfl _ _ 24 24 rfl (.slice none 0 0) (.slice a2 k c2) ?hs ?hx _ _ r1 ?_); (case hs => go_simp); (case hx => go_simp); clear r1)
    obtain ⟨Z, hZ⟩ : ∃ Z, w5.setCell ⟨g11, 3, none⟩ (.slice (some ⟨gy, 0, none⟩) k cy) = Z := ⟨_, rfl⟩
    unfold Hid at S6 O6 B6
    rw [hZ] at S6 O6 B6 ⊢
    obtain ⟨i, hi⟩ : ∃ i : Nat, pk22 which (k : Int) = (i : Int) := ⟨(pk22 which k).toNat, by have := pk_nonneg22 which k k1; omega⟩
    have hi2 : (i : Int) < (k : Int) := by rw [← hi]; exact pk_lt22 which k k1
    have i6 := pick22_any which k hw1 hw2 k1 (by have := HL2.out; omega) Z
    rw [hi] at i6
    obtain ⟨m, hm⟩ : ∃ m : Nat, (k : Int) - 1 - (i : Int) = (m : Int) := ⟨k - 1 - i, by omega⟩
    have hm2 : m < k := by omega
    obtain ⟨⟨X, D⟩, hq⟩ : ∃ q, S2[m]? = some q := ⟨_, List.getElem?_eq_getElem (by rw [HK.out]; exact hm2)⟩
    have hik : i < S2.length := by rw [HK.out]; omega
    obtain ⟨o7, ⟨y1, e1⟩, f1⟩ := Wz.OwnM.set O6 (j := i * 2) (by rw [sgs_len]; omega) (.string X)
    obtain ⟨o8, ⟨y2, e2⟩, f2⟩ := Wz.OwnM.set o7 (j := i * 2 + 1) (by rw [List.length_set, sgs_len]; omega) (.string D)
    rw [← sgs_set] at o8
    have hq8 : (S2.set i (X, D))[m]? = some (X, D) := by
      by_cases e : i = m
      · subst e; rw [List.getElem?_set_self hik]
      · rw [List.getElem?_set_ne e, hq]
    have ce : ∀ {W' : World} {L : List Sg}, Wz.OwnM 2 W' (.slice (some ⟨gy, 0, none⟩) k cy) k (sgs L) → L[m]? = some (X, D) → W'.cell? ⟨gy, m * 2, none⟩ = some (.string X) ∧ W'.cell? ⟨gy, m * 2 + 1, none⟩ = some (.string D) := fun {W' L} ho hl => by
      obtain ⟨ga, ca, e, h1, _⟩ := ho.cell (sgs_get hl).1
      obtain ⟨gb, cb, e', h2, _⟩ := ho.cell (sgs_get hl).2
      injection e with e _ _
      injection e' with e' _ _
      injection e with e
      injection e' with e'
      injection e with e
      injection e' with e'
      subst e
      subst e'
      exact ⟨h1, h2⟩
    have c6 := ce O6 hq
    have c8 := ce o8 hq8
    have x6 := S6.c3
    have sb6 : But gy Z ((Z.setCell ⟨gy, i * 2, none⟩ (.string X)).setCell ⟨gy, i * 2 + 1, none⟩ (.string D)) := ((But.refl gy Z).setCell _ _).setCell _ _
    have S8 : Bx ((Z.setCell ⟨gy, i * 2, none⟩ (.string X)).setCell ⟨gy, i * 2 + 1, none⟩ (.string D)) g11 O2 z2 R2 (.slice (some ⟨gy, 0, none⟩) k cy) := S6.kept (sb6.block g11 (lt_of_heap S6) (by have := GY.out; omega))
    have B8 : Below V.heap.size V ((Z.setCell ⟨gy, i * 2, none⟩ (.string X)).setCell ⟨gy, i * 2 + 1, none⟩ (.string D)) := (B6.setCell (p := ⟨gy, i * 2, none⟩) (by have := GY.out; show V.heap.size ≤ gy; omega) _).setCell (p := ⟨gy, i * 2 + 1, none⟩) (by have := GY.out; show V.heap.size ≤ gy; omega) _
    have x8 := S8.c3
    have t0 : (0 : Int) ≤ (i : Int) := by omega
    have t1 : (0 : Int) ≤ (m : Int) := by omega
    have t2 : (m : Int) < (k : Int) := by omega
    have t3 : IntKind.i64.wrap ((k : Int) - 1) = (k : Int) - 1 := by have := HL2.out; rw [IntKind.wrap_i64]; omega
    have t4 : IntKind.i64.wrap ((k : Int) - 1 - (i : Int)) = (m : Int) := by have := HL2.out; rw [IntKind.wrap_i64]; omega
    have HM := hid hm
    clear hm
    have O8 := hid o8
    have S8 := hid S8
    have B8 := hid B8
    have HI := hid (And.intro hik hi)
    have HQ := hid (And.intro hq hq8)
    have B6 := hid B6
    clear o7 o8 O6 S6 hik hi hq hq8 ce sb6 hZ
    go_upto_region 11 with (go_at_call 9; (refine i6.mono ?_); rintro q w6 ⟨rfl, rfl⟩)
    go_region_held3 (fun W' => W'.cell? ⟨g11, 3, none⟩ = some (.slice (some ⟨gy, 0, none⟩) k cy) ∧ W'.cell? ⟨gy, m * 2, none⟩ = some (.string X) ∧ W'.cell? ⟨gy, m * 2 + 1, none⟩ = some (.string D)) (first | exact ⟨x6, c6⟩ | exact ⟨x8, c8⟩) (first | fail)
    have S8 : Bx ((w6.setCell ⟨gy, i * 2, none⟩ (.string X)).setCell ⟨gy, i * 2 + 1, none⟩ (.string D)).drew g11 O2 z2 R2 (.slice (some ⟨gy, 0, none⟩) k cy) := S8.out
    have O8 : Wz.OwnM 2 ((w6.setCell ⟨gy, i * 2, none⟩ (.string X)).setCell ⟨gy, i * 2 + 1, none⟩ (.string D)).drew (.slice (some ⟨gy, 0, none⟩) k cy) k (sgs (S2.set i (X, D))) := O8.out.drew
    have B8 : Below V.heap.size V ((w6.setCell ⟨gy, i * 2, none⟩ (.string X)).setCell ⟨gy, i * 2 + 1, none⟩ (.string D)).drew := B8.out.drew
    obtain ⟨T8, hT8⟩ : ∃ T, ((w6.setCell ⟨gy, i * 2, none⟩ (.string X)).setCell ⟨gy, i * 2 + 1, none⟩ (.string D)).drew = T := ⟨_, rfl⟩
    rw [hT8] at S8 O8 B8 ⊢
    clear hT8 c6 c8 x6 x8 e1 e2 f1 f2 t0 t1 t2 t3 t4
    have hXD : (X, D) ∈ S2 := List.mem_of_getElem? HQ.out.1
    have hmem : ∀ x ∈ S2.set i (X, D), x ∈ S2 := fun x hx => by
      rcases List.mem_or_eq_of_mem_set hx with h | h
      · exact h
      · rw [h]; exact hXD
    have hl3 : Hid ((S2.set i (X, D)).length = k) := hid (by rw [List.length_set]; exact HK.out)
    obtain ⟨a3, c3, e3, hA3, hF3⟩ := ownM_atS O8
    obtain rfl : a3 = some ⟨gy, 0, none⟩ := by injection e3 with e3; exact e3.symm
    clear e3
    have i7 := prints22_any O2 R2 z2 HO2.out (S2.set i (X, D)) k hl3 (by have := HL2.out; omega) (fun x hx => HS2.out x (hmem x hx)) (some ⟨gy, 0, none⟩) cy T8 (HNV.out.below B8) hA3 hF3
    have p0 := S8.c0
    have p1 := S8.c1
    have p2 := S8.c2
    have p3 := S8.c3
    have S8 := hid S8
    have O8 := hid O8
    have B8 := hid B8
    have HM2 := hid hmem
    clear hXD hmem hA3 hF3
    go_upto_region 13 with (go_at_call 7; (refine i7.mono ?_); rintro q w9 ⟨rfl, b9⟩)
    have S9 := S8.out.below b9
    have O9 := O8.out.below b9
    have B9 := B8.out.trans (b9.mono B8.out.size)
    obtain ⟨v10, w10, r2, o10, gr10⟩ := append_sgs w9 (.slice (some ⟨gy, 0, none⟩) k cy) (S2.set i (X, D)) S2 a2 c2 (by rw [hl3.out]; exact O9) (HF2.out.below B9) (by have := HL2.out; rw [hl3.out, HK.out]; omega)
    have el : (S2.set i (X, D) ++ S2).length = k + k := by rw [List.length_append, hl3.out, HK.out]
    rw [el] at o10
    rw [HK.out] at r2
    obtain ⟨b10, d10, rfl, -, -⟩ := o10.shape
    have lg := lt_of_heap S9
    have hold : ∀ q, q ≤ g11 → w10.heap[q]? = w9.heap[q]? := fun q hq => gr10.old q (by omega) (fun e => by have := GY.out; have e : some gy = some q := e; injection e with e; omega)
    have S10 := S9.kept (hold g11 (Nat.le_refl _))
    have B10 : Below V.heap.size V w10 := B9.trans ⟨gr10.os, gr10.tape, gr10.output, gr10.size, fun q hq => hold q (by have := GY.out; omega)⟩
    have E10 := setCell_eq_setRow w10 g11 3 _ 26 (0, 0) (.slice b10 (k + k) d10) S10
    have cb10 : But g11 w10 (w10.setCell ⟨g11, 3, none⟩ (.slice b10 (k + k) d10)) := (But.refl g11 w10).setCell _ _
    have hne : ∀ q, (Value.slice b10 (k + k) d10).ownBlock = some q → q ≠ g11 := fun q hq => by
      rcases gr10.alt with e | ⟨e, _⟩
      · rw [hq] at e
        have e : some q = some gy := e
        injection e with e
        have := GY.out
        omega
      · have := e q hq
        omega
    have S11 : Bx (w10.setCell ⟨g11, 3, none⟩ (.slice b10 (k + k) d10)) g11 O2 z2 R2 (.slice b10 (k + k) d10) := by rw [E10]; exact setRow_heap _ _ _ _ _ _ S10
    have O11 := o10.kept cb10.size (fun q hq => cb10.block q (o10.lt q hq) (hne q hq))
    have B11 : Below V.heap.size V (w10.setCell ⟨g11, 3, none⟩ (.slice b10 (k + k) d10)) := B10.setCell GY.out.1 _
    have k9 := S9.c3
    have k10 := S10.c3
    have z10 : w10.frozen? ⟨g11, 3, none⟩ = false := frozen_of_row _ _ _ _ _ S10
    have y9 := (CV.out w9 B9).2.2.2
    obtain ⟨a4, c4, e4, hA4, hF4⟩ := ownM_atS O11
    have e4 : b10 = a4 := by injection e4
    rw [← e4] at hA4 hF4
    have i8 := prints22_any O2 R2 z2 HO2.out (S2.set i (X, D) ++ S2) (k + k) (hid el) (by have := HL2.out; omega) (fun x hx => by
      rcases List.mem_append.1 hx with hx | hx
      · exact HS2.out x (HM2.out x hx)
      · exact HS2.out x hx) b10 d10 _ (HNV.out.below B11) hA4 hF4
    have u0 := S11.c0
    have u1 := S11.c1
    have u2 := S11.c2
    have u3 := S11.c3
    have B11 := hid B11
    clear e4 hA4 hF4 S9 O9 B9 o10 gr10 el lg hold S10 B10 E10 cb10 hne S11 O11 b9 p0 p1 p2 p3
    go_upto_region 14 with ((with_reducible show wpList _ _ _ (Oper.mk _ (Op.call { callee := Callee.builtin Builtin.append, args := _, argTypes := #[24, 24] }) _ _ _ _ :: _) _ _); (refine Lib.wpList_append_run _ rfl _ _ 24 24 rfl (.slice (some ⟨gy, 0, none⟩) k cy) (.slice a2 k c2) ?hs ?hx _ _ r2 ?_); (case hs => go_simp); (case hx => go_simp); clear r2)
    obtain ⟨T12, hT12⟩ : ∃ T, w10.setCell ⟨g11, 3, none⟩ (.slice b10 (k + k) d10) = T := ⟨_, rfl⟩
    unfold Hid at B11
    rw [hT12] at u0 u1 u2 u3 B11 i8 ⊢
    have B11 := hid B11
    clear hT12
    go_wp2_with (go_at_call 7; (refine i8.mono ?_); rintro q w13 ⟨rfl, b13⟩)
    go_ret
    exact ⟨rfl, HBV.out.trans ((B11.out.trans (b13.mono B11.out.size)).mono HBV.out.size)⟩
end Nt
end Go.Proofs.YtdbbemcddhgbcaaGreatDoor

/- Layer 22: the first line of a text, in the program -/
namespace Go.Proofs.YtdbbemcddhgbcaaGreatDoor
open Go.RowKit Go.Shelf
namespace Nt
/-- where a text's first line ends; its size, if it has no end -/
def eol (s : ByteArray) : Nat := s.data.toList.findIdx (fun b => b.toNat == 10)
/-- no line's end ahead of a place -/
def Pre (s : ByteArray) (k : Nat) : Prop := ∀ j b, j < k → s.data.toList[j]? = some b → b.toNat ≠ 10
theorem Pre.next {s : ByteArray} {k : Nat} (h : Pre s k) (hk : k < s.size) (hb : (s[k]'hk).toNat ≠ 10) : Pre s (k + 1) := fun j b hj hs => by
  rcases Nat.lt_or_ge j k with e | e
  · exact h j b e hs
  · obtain rfl : j = k := by omega
    rw [getL s j hk] at hs
    obtain rfl := Option.some.inj hs
    exact hb
theorem dlen (s : ByteArray) : s.data.toList.length = s.size := by simp
theorem eol_at {s : ByteArray} {k : Nat} (h : Pre s k) (hk : k < s.size) (hb : (s[k]'hk).toNat = 10) : eol s = k := by
  unfold eol
  have hk' : k < s.data.toList.length := by rw [dlen]; exact hk
  refine (List.findIdx_eq hk').2 ⟨?_, fun j hj => ?_⟩
  · have e := getL s k hk
    rw [List.getElem?_eq_getElem hk'] at e
    rw [Option.some.inj e, hb]
    rfl
  · have := h j _ hj (List.getElem?_eq_getElem (by omega))
    exact beq_false_of_ne this
theorem eol_none {s : ByteArray} (h : Pre s s.size) : eol s = s.size := by
  unfold eol
  rw [← dlen s]
  refine List.findIdx_eq_length_of_false fun b hb => ?_
  obtain ⟨j, hj, e⟩ := List.mem_iff_getElem.1 hb
  exact beq_false_of_ne (h j b (by rw [← dlen]; exact hj) (by rw [List.getElem?_eq_getElem hj, e]))
theorem eol_le (s : ByteArray) : eol s ≤ s.size := by
  unfold eol
  rw [← dlen s]
  exact List.findIdx_le_length
theorem get_bang (s : ByteArray) (j : Nat) (h : j < s.size) : s.get! j = s[j]'h := get_at s j h
theorem cont_high (s : ByteArray) (pos : Nat) (h : pos < s.size) (ha : 128 ≤ (s[pos]'h).toNat) (k : Nat) (h1 : 1 ≤ k) (h2 : k < (Utf8.decode s pos).2) : (s.get! (pos + k)).toNat / 64 = 2 := by
  have hn : ¬ (s[pos]'h).toNat < 128 := by omega
  revert h2
  simp only [Utf8.decode, get_at s pos h, hn, if_false]
  split
  · rename_i g
    simp only [Bool.and_eq_true, beq_iff_eq, decide_eq_true_eq] at g
    split
    · intro h2
      obtain rfl : k = 1 := by simp only at h2; omega
      exact g.2.2
    · intro h2
      simp only at h2
      omega
  · split
    · rename_i g
      simp only [Bool.and_eq_true, beq_iff_eq, decide_eq_true_eq] at g
      split
      · intro h2
        simp only at h2
        rcases (show k = 1 ∨ k = 2 by omega) with rfl | rfl
        · exact g.1.2.2
        · exact g.2.2
      · intro h2
        simp only at h2
        omega
    · split
      · rename_i g
        simp only [Bool.and_eq_true, beq_iff_eq, decide_eq_true_eq] at g
        split
        · intro h2
          simp only at h2
          rcases (show k = 1 ∨ k = 2 ∨ k = 3 by omega) with rfl | rfl | rfl
          · exact g.1.1.2.2
          · exact g.1.2.2
          · exact g.2.2
        · intro h2
          simp only at h2
          omega
      · intro h2
        simp only at h2
        omega
theorem decode_fits (s : ByteArray) (pos : Nat) (h : pos < s.size) : pos + (Utf8.decode s pos).2 ≤ s.size := by
  simp only [Utf8.decode]
  repeat' split
  all_goals simp_all
  all_goals omega
/-- the sign that is read at a place tells of the byte that stands there, and all bytes of it are no line's end if it is none -/
theorem sg10 (s : ByteArray) (pos : Nat) (h : pos < s.size) : ((Utf8.decode s pos).1 = 10 ↔ (s[pos]'h).toNat = 10) := by
  by_cases ha : (s[pos]'h).toNat < 128
  · rw [decode_ascii s pos h ha]
  · have h1 := decode_high s pos h (by omega)
    constructor <;> intro <;> omega
theorem pre_any {s : ByteArray} {pos : Nat} (hp : Pre s pos) (h : pos < s.size) (hb : (s[pos]'h).toNat ≠ 10) : Pre s (pos + (Utf8.decode s pos).2) := by
  by_cases ha : (s[pos]'h).toNat < 128
  · rw [decode_ascii s pos h ha]
    exact hp.next h hb
  · intro j b hj hs
    rcases Nat.lt_or_ge j pos with e | e
    · exact hp j b e hs
    · have hj2 : j < s.size := by
        rw [← dlen]
        exact (List.getElem?_eq_some_iff.1 hs).1
      rw [getL s j hj2] at hs
      obtain rfl := Option.some.inj hs
      rcases Nat.eq_or_lt_of_le e with e | e
      · subst e; exact hb
      · have h1 := cont_high s pos h (by omega) (j - pos) (by omega) (by omega)
        rw [show pos + (j - pos) = j by omega, get_bang s j hj2] at h1
        omega
/-- what is cut off, and whether anything is -/
def cutL (s : ByteArray) : ByteArray := if eol s < s.size then s.extract 0 (eol s) else ⟨#[]⟩
def cutR (s : ByteArray) : ByteArray := if eol s < s.size then s.extract (eol s + 1) s.size else s
set_option maxRecDepth 100000 in
set_option maxHeartbeats 2000000 in
theorem cut_any (s : ByteArray) (hs : s.size ≤ 9223372036854775806) (w : World) : Calls Tryz.prog 57 #[.string s] w fun r w' => r = .returned (.tuple #[.string (cutL s), .string (cutR s), .bool (decide (eol s < s.size))]) ∧ Below w.heap.size w w' := by
  have HS := hid hs
  clear hs
  go_enter Tryz.func57, Tryz.ntmps57
  go_wp2
  go_loopw [5, 6] (fun _ _ wr => ∃ pos : Nat, pos ≤ s.size ∧ Hid (wr.heap[w.heap.size]? = some (.stringIter s pos)) ∧ Hid (Below w.heap.size w wr) ∧ Hid (Pre s pos)) (fun _ _ wr => s.size - wr.iterPos w.heap.size)
  case atStart => exact ⟨0, by omega, World.iter_heap w s 0, (Below.refl _ _).alloc (Nat.le_refl _) _, fun j b hj => by omega⟩
  case round =>
    obtain ⟨pos, hps, hit, hbw, hok⟩ := hrel
    have hpos0 : wr.iterPos w.heap.size = pos := by unfold World.iterPos; rw [hit.out]
    by_cases hp : pos < s.size
    · have hnx : ∀ ty, (Instr.next (.pointer (some ⟨w.heap.size, 0, none⟩)) true ty).run Tryz.prog wr = _ := fun ty => Lib.run_next_any_at wr w.heap.size s pos ty hit.out hp
      have hit2 := hid (Lib.iterAt_heap wr w.heap.size s pos (pos + (Utf8.decode s pos).2) hit.out)
      have hbw2 := hid (Lib.below_iterAt hbw.out (k := w.heap.size) (Nat.le_refl _) s (pos + (Utf8.decode s pos).2))
      obtain ⟨W1, hW1⟩ : ∃ W1, W1 = wr.iterAt w.heap.size s (pos + (Utf8.decode s pos).2) := ⟨_, rfl⟩
      rw [← hW1] at hnx hit2 hbw2
      have h3 := hid (sg10 s pos hp)
      have h4 := hid (fun hb => pre_any hok.out hp hb)
      have h6 := hid (fun hb => eol_at hok.out hp hb)
      have wd := width_one s pos hp
      obtain ⟨c, hc⟩ : ∃ c, (Utf8.decode s pos).1 = c := ⟨_, rfl⟩
      obtain ⟨d, hd⟩ : ∃ d, (Utf8.decode s pos).2 = d := ⟨_, rfl⟩
      have h5 : pos + (Utf8.decode s pos).2 ≤ s.size := decode_fits s pos hp
      unfold Hid at h3 hit2 h4
      rw [hc] at hnx h3
      rw [hd] at hit2 h4 h5 wd
      have h3 := hid h3
      have h4 := hid h4
      have hit2 := hid hit2
      clear hc hd hW1 hit hbw hok
      by_cases hb : c = 10
      · have hb' : (c : Int) = 10 := by omega
        have HP := hid hpos0
        clear hpos0
        have e := hid (h6.out (h3.out.1 hb))
        clear h3 h4 h6 hb
        have r1 := fun W => run_slice_string_h (P := Tryz.prog) W 9 s Tryz.underlying9 .i64 (pos : Int) (by omega) (by omega)
        have r2 := fun W => run_slice_string_l (P := Tryz.prog) W 9 s Tryz.underlying9 .i64 ((pos + 1 : Nat) : Int) (by omega) (by omega)
        have t1 : IntKind.i64.wrap ((pos : Int) + 1) = ((pos + 1 : Nat) : Int) := by have := HS.out; rw [IntKind.wrap_i64]; omega
        go_wp2
        go_quiet (fail)
        go_wp2
        go_ret3
        have e := e.out
        refine ⟨?_, ⟨hbw2.out.os, hbw2.out.tape, hbw2.out.output, hbw2.out.size, hbw2.out.block⟩⟩
        have g1 : cutL s = s.extract 0 pos := by unfold cutL; rw [e, if_pos hp]
        have g2 : cutR s = s.extract (pos + 1) s.size := by unfold cutR; rw [e, if_pos hp]
        rw [g1, g2, e, decide_eq_true hp]
        rfl
      · have hb' : ¬ (c : Int) = 10 := by omega
        have HP := hid hpos0
        clear hpos0
        have h7 := hid (h4.out (fun e => hb (h3.out.2 e)))
        clear h3 h4 h6 hb
        go_wp2
        refine ⟨⟨pos + d, h5, hit2, hbw2, h7⟩, ?_⟩
        have : W1.iterPos w.heap.size = pos + d := by unfold World.iterPos; rw [hit2.out]
        have := HP.out
        omega
    · obtain rfl : pos = s.size := by omega
      have hnx : ∀ ty, (Instr.next (.pointer (some ⟨w.heap.size, 0, none⟩)) true ty).run Tryz.prog wr = _ := fun ty => Lib.run_next_end_at wr w.heap.size s s.size ty hit.out hp
      have e := hid (eol_none hok.out)
      go_wp2
      go_ret3
      have e := e.out
      refine ⟨?_, hbw.out⟩
      unfold cutL cutR
      rw [e, if_neg (Nat.lt_irrefl _), if_neg (Nat.lt_irrefl _), decide_eq_false (Nat.lt_irrefl _)]
      rfl
end Nt
end Go.Proofs.YtdbbemcddhgbcaaGreatDoor

/- Layer 22: sizes and signatures' lines, in the program -/
namespace Go.Proofs.YtdbbemcddhgbcaaGreatDoor
open Go.RowKit Go.Shelf
namespace Nt
/-- the size that a line is -/
def szB (l : ByteArray) : Option Int := match Lib.atoiAll l.data.toList with
  | .ok v => if (0 ≤ v ∧ v ≤ 1099511627776) ∧ iT v = l then some v else none
  | _ => none
/-- what sizeOf tells of a line -/
def SzP (l : ByteArray) (v : Int) (b : Bool) : Prop := match szB l with
  | some z => v = z ∧ b = true
  | none => b = false
theorem SzP.yes {l : ByteArray} {z : Int} (h : szB l = some z) : SzP l z true := by unfold SzP; rw [h]; exact ⟨rfl, rfl⟩
theorem SzP.no {l : ByteArray} {z : Int} (h : szB l = none) : SzP l z false := by unfold SzP; rw [h]
theorem SzP.of {l : ByteArray} {z : Int} {b : Bool} (h : SzP l z b) : (szB l = some z ∧ b = true) ∨ (szB l = none ∧ b = false) := by
  unfold SzP at h
  split at h
  · rename_i e; exact .inl ⟨by rw [e, h.1], h.2⟩
  · rename_i e; exact .inr ⟨e, h⟩
def SzQ (l : ByteArray) (q : Ending) : Prop := ∃ v b, q = .returned (.tuple #[.int .i64 v, .bool b]) ∧ SzP l v b
theorem ba_ne {a b : ByteArray} (h : a ≠ b) : (a.toList == b.toList) = false := beq_false_of_ne fun e => h (Go.WideShapes.bytes_inj (by rw [← ByteArray.toList_eq, ← ByteArray.toList_eq, e]))
set_option maxRecDepth 100000 in
set_option maxHeartbeats 4000000 in
theorem sizeOf_any {E : Es} {w : World} (h : Nw w E) (l : ByteArray) (hl : l.size ≤ 140737488355328) : Calls Tryz.prog 80 #[.string l] w fun q w' => SzQ l q ∧ Below w.heap.size w w' := by
  have H := hid h
  cases ha : Lib.atoiAll l.data.toList with
  | ok v =>
    have i1 := Tryz.strconv_Atoi_ok l (by omega) v ha w
    by_cases v0 : 0 ≤ v
    · by_cases v1 : v ≤ 1099511627776
      · have i2 := fun w' (bb : Below w.heap.size w w') => itoa_any (H.out.below bb) v (by omega) (by omega)
        by_cases ht : iT v = l
        · have e : szB l = some v := by unfold szB; rw [ha]; exact if_pos ⟨⟨v0, v1⟩, ht⟩
          have HE := hid (SzP.yes e)
          subst ht
          clear e ha h
          go_enter Tryz.func80, Tryz.ntmps80
          go_wp2_with (first
            | (go_at_call 95; (refine i1.mono ?_); rintro q w1 ⟨rfl, b1⟩; (have B1 : Below w.heap.size w w1 := (by rcases b1 with rfl | ⟨t, rfl⟩; exact Below.refl _ _; exact Lib.bytesWorld_below _ _ _)); clear b1)
            | (go_at_call 53; (refine (i2 w1 B1).mono ?_); rintro q w2 ⟨rfl, b2⟩))
          go_ret2
          exact ⟨⟨_, _, rfl, HE.out⟩, B1.trans (b2.mono B1.size)⟩
        · have e : szB l = none := by unfold szB; rw [ha]; exact if_neg fun h => ht h.2
          have HE := hid (SzP.no (z := v) e)
          have ht' := ba_ne ht
          clear e ha h
          go_enter Tryz.func80, Tryz.ntmps80
          go_wp2_with (first
            | (go_at_call 95; (refine i1.mono ?_); rintro q w1 ⟨rfl, b1⟩; (have B1 : Below w.heap.size w w1 := (by rcases b1 with rfl | ⟨t, rfl⟩; exact Below.refl _ _; exact Lib.bytesWorld_below _ _ _)); clear b1)
            | (go_at_call 53; (refine (i2 w1 B1).mono ?_); rintro q w2 ⟨rfl, b2⟩))
          go_ret2
          exact ⟨⟨_, _, rfl, HE.out⟩, B1.trans (b2.mono B1.size)⟩
      · have e : szB l = none := by unfold szB; rw [ha]; exact if_neg fun h => v1 h.1.2
        have HE := hid (SzP.no (z := v) e)
        clear e ha h
        go_enter Tryz.func80, Tryz.ntmps80
        go_wp2_with (go_at_call 95; (refine i1.mono ?_); rintro q w1 ⟨rfl, b1⟩; (have B1 : Below w.heap.size w w1 := (by rcases b1 with rfl | ⟨t, rfl⟩; exact Below.refl _ _; exact Lib.bytesWorld_below _ _ _)); clear b1)
        go_ret2
        exact ⟨⟨_, _, rfl, HE.out⟩, B1⟩
    · have e : szB l = none := by unfold szB; rw [ha]; exact if_neg fun h => v0 h.1.1
      have HE := hid (SzP.no (z := v) e)
      clear e ha h
      go_enter Tryz.func80, Tryz.ntmps80
      go_wp2_with (go_at_call 95; (refine i1.mono ?_); rintro q w1 ⟨rfl, b1⟩; (have B1 : Below w.heap.size w w1 := (by rcases b1 with rfl | ⟨t, rfl⟩; exact Below.refl _ _; exact Lib.bytesWorld_below _ _ _)); clear b1)
      go_ret2
      exact ⟨⟨_, _, rfl, HE.out⟩, B1⟩
  | «syntax» =>
    obtain ⟨ev, e1, e2⟩ := h.vs
    have i1 := Tryz.strconv_Atoi_syntax l (by omega) ha ev w e1 e2
    have e : szB l = none := by unfold szB; rw [ha]
    have HE := hid fun z => SzP.no (z := z) e
    clear e ha h e1 e2
    go_enter Tryz.func80, Tryz.ntmps80
    go_wp2_with (go_at_call 95; (refine i1.mono ?_); rintro q w1 ⟨N, rfl, h2, h3, b1⟩)
    go_ret2
    exact ⟨⟨_, _, rfl, HE.out _⟩, b1⟩
  | range =>
    obtain ⟨ev, e1, e2⟩ := h.vr
    have i1 := Tryz.strconv_Atoi_range l (by omega) ha ev w e1 e2
    have e : szB l = none := by unfold szB; rw [ha]
    have HE := hid fun z => SzP.no (z := z) e
    clear e ha h e1 e2
    go_enter Tryz.func80, Tryz.ntmps80
    go_wp2_with (go_at_call 95; (refine i1.mono ?_); rintro q w1 ⟨N, rfl, h2, h3, b1⟩)
    go_ret2
    exact ⟨⟨_, _, rfl, HE.out _⟩, b1⟩
end Nt
end Go.Proofs.YtdbbemcddhgbcaaGreatDoor
