import Derived.Test.YtfddkmkibfmmgaaDoorCTL62
import Derived.Test.YtfddkmkibfmmgaaDoorCTL59
namespace Go.Proofs.YtfddkmkibfmmgaaDoor
open Go.RowKit
set_option maxRecDepth 100000 in
set_option maxHeartbeats 4000000 in
theorem play_clone {w : World} {X : Nat} {ρ : Wb.Rol} {S : Wb.BS} {T : Bool → TS} (h : Tw w X ρ S T) {m N : Nat} (hc : Ct S m) (hm : m ≤ 230) (oth kpt : Bool) (n mm : Int) (hn1 : -9223372036854775808 ≤ n ∧ n ≤ 9223372036854775807) (hm1 : -9223372036854775808 ≤ mm ∧ mm ≤ 9223372036854775807) (s : List UInt8) (Z : Tb w) (hX4 : 4 ≤ X) (hN : ∀ c, (T c).L.length ≤ N) (hN2 : N ≤ 100000) :
    Calls Tryd.prog 30 #[ptr X, .agg #[.bool oth, .bool kpt, .int .i64 12, .int .i64 n, .int .i64 mm, .string ⟨s.toArray⟩]] w fun r w' => r = .returned (.bool true) ∧ PlP w X m N T w' := by
  have _u := And.intro hm (And.intro hn1 (And.intro hm1 hN2))
  unfold ptr
  cases oth
  · obtain ⟨w1, w2, hw1, hw2, y1, y7, f7, HT⟩ := play_start h false kpt 12 n mm s
    have R2 := HT.out.2.1
    unfold OpC at R2
    have e0 : w2.cell? ⟨w.heap.size, 0, none⟩ = some (.bool false) := by rw [cell_of_row _ _ _ _ _ _ R2]; rfl
    have e2 : w2.cell? ⟨w.heap.size, 2, none⟩ = some (.int .i64 12) := by rw [cell_of_row _ _ _ _ _ _ R2]; rfl
    have e3 : w2.cell? ⟨w.heap.size, 3, none⟩ = some (.int .i64 n) := by rw [cell_of_row _ _ _ _ _ _ R2]; rfl
    have e4 : w2.cell? ⟨w.heap.size, 4, none⟩ = some (.int .i64 mm) := by rw [cell_of_row _ _ _ _ _ _ R2]; rfl
    have e5 : w2.cell? ⟨w.heap.size, 5, none⟩ = some (.string ⟨s.toArray⟩) := by rw [cell_of_row _ _ _ _ _ _ R2]; rfl
    have i0 := rSizeL (HT.out.1.r false)
    have cx : w2.cell? ⟨X, 2, none⟩ = some (.pointer (some ⟨(T false).y, 0, none⟩)) := HT.out.1.cx false
    have ct : w2.cell? ⟨X, 0, none⟩ = some (.pointer (some ⟨(T false).q, 0, none⟩)) := HT.out.1.ct false
    have Z2 : Tb w2 := Z.below HT.out.2.2.1 hX4
    have lb := hN false
    have nX := HT.out.1.noX
    have nG : NoT T w.heap.size := h.noG (Nat.le_refl _)
    have hX2 := HT.out.1.lt
    have hg2 : w.heap.size < w2.heap.size := HT.out.2.2.2
    have CX := HT.out.1.cx false
    have dr : Below w2.heap.size w2 w2.drew := (Below.refl _ _).drew
    have i1 := clone_fst HT.out.1 false Z2.lt
    have M : Hid (∀ q w3, Cl1 w2 T false q w3 → _) := fun q w3 H => clone_mid_false HT.out.1 (q := q) (w1 := w3) H
    have i2 : Hid (∀ q w3, Cl1 w2 T false q w3 → _) := fun q w3 H => clone_snd_false HT.out.1 (q := q) (w1 := w3) H Z2.lt
    have E : Hid (∀ q y w3 w5, Cl1 w2 T false q w3 → Cl2 (w3.setCell ⟨X, 1, none⟩ (.pointer (some ⟨q, 0, none⟩))) T false y w5 → _) := fun q y w3 w5 H H2 => clone_end_false HT.out.1 (q := q) (w1 := w3) (w2 := w5) (y := y) H H2
    have fin : Hid (∀ q y w', (∃ T', Tw w' X ρ { ({ S with kp := kpt } : Wb.BS) with p1 := .pointer (some ⟨q, 0, none⟩), x1 := .pointer (some ⟨y, 0, none⟩) } T' ∧ Goes w2 X T w' T' ∧ ∀ c, ∃ d, (T' c).L = (T d).L) → PlP w X m N T w') := fun q y w' ⟨T', A1, A2, A3⟩ => ⟨ρ, _, T', A1, ⟨(by obtain ⟨a, q1, q2⟩ := hc.a; exact ⟨a, q1, by show a + S.L2.length ≤ m + 2; omega⟩), hc.e, hc.o, hc.tx⟩, (Goes.same h HT.out.1 HT.out.2.2.1).trans A2, fun c => by obtain ⟨d, hd⟩ := A3 c; rw [hd]; have := hN d; omega⟩
    have HN := hid hN
    generalize (T false).L.length = sz at *
    generalize (T false).y = yy at *
    generalize (T false).q = qq at *
    generalize (T true).y = yd at *
    generalize (T true).q = qd at *
    have S0 := ct
    have u1 : IntKind.i64.wrap ((1 : Int) - 0) = 1 := by decide
    have u2 : IntKind.i64.wrap (1 : Int) = 1 := by decide
    clear R2 Z2 Z h hN hc _u nX nG hX2 hg2 CX dr e3 e4 e5 ct
    go_enter Tryd.func30, Tryd.ntmps30
    go_wp2_with (go_at_call 49; refine i0.mono ?_; rintro r w3 ⟨rfl, hw3⟩; have hw3 := hw3.symm; subst hw3)
    go_region_held3 (fun w' => w'.cell? ⟨X, 0, none⟩ = some (.pointer (some ⟨qq, 0, none⟩))) (first | exact S0 | exact S3 | exact S4) ((go_at_call 15; (with_reducible refine i1.mono ?_); rintro r w3 ⟨q3, rfl, H3⟩; obtain ⟨⟨S3, d3, z3⟩, S4, S5⟩ := M.out _ _ H3.out))
    have i3 := i2.out _ _ H3.out
    clear S0 S3 S4 i1 i2 d3 z3
    obtain ⟨w4, hw4⟩ : ∃ w4, w3.setCell ⟨X, 1, none⟩ (.pointer (some ⟨q3, 0, none⟩)) = w4 := ⟨_, rfl⟩
    have E2 : Hid (∀ y w5, Cl2 w4 T false y w5 → _) := fun y w5 H2 => E.out q3 y w3 w5 H3.out (hw4.symm ▸ H2)
    rw [hw4] at S5 i3 ⊢
    clear hw4
    go_wp2
    go_region_held3 (fun w' => w'.cell? ⟨X, 2, none⟩ = some (.pointer (some ⟨yy, 0, none⟩))) (first | exact S5 | exact S6 | exact S7) ((go_at_call 55; (with_reducible refine i3.mono ?_); rintro r w5 ⟨y5, rfl, H5⟩; obtain ⟨⟨S6, d6, z6⟩, S7, S8, S9⟩ := E2.out _ _ H5.out))
    have S9 := hid S9
    clear S5 S6 S7 d6 z6
    go_wp2
    go_ret
    exact ⟨rfl, fin.out _ _ _ S9.out⟩
  · obtain ⟨w1, w2, hw1, hw2, y1, y7, f7, HT⟩ := play_start h true kpt 12 n mm s
    have R2 := HT.out.2.1
    unfold OpC at R2
    have e0 : w2.cell? ⟨w.heap.size, 0, none⟩ = some (.bool true) := by rw [cell_of_row _ _ _ _ _ _ R2]; rfl
    have e2 : w2.cell? ⟨w.heap.size, 2, none⟩ = some (.int .i64 12) := by rw [cell_of_row _ _ _ _ _ _ R2]; rfl
    have e3 : w2.cell? ⟨w.heap.size, 3, none⟩ = some (.int .i64 n) := by rw [cell_of_row _ _ _ _ _ _ R2]; rfl
    have e4 : w2.cell? ⟨w.heap.size, 4, none⟩ = some (.int .i64 mm) := by rw [cell_of_row _ _ _ _ _ _ R2]; rfl
    have e5 : w2.cell? ⟨w.heap.size, 5, none⟩ = some (.string ⟨s.toArray⟩) := by rw [cell_of_row _ _ _ _ _ _ R2]; rfl
    have i0 := rSizeL (HT.out.1.r true)
    have cx : w2.cell? ⟨X, 3, none⟩ = some (.pointer (some ⟨(T true).y, 0, none⟩)) := HT.out.1.cx true
    have ct : w2.cell? ⟨X, 1, none⟩ = some (.pointer (some ⟨(T true).q, 0, none⟩)) := HT.out.1.ct true
    have Z2 : Tb w2 := Z.below HT.out.2.2.1 hX4
    have lb := hN true
    have nX := HT.out.1.noX
    have nG : NoT T w.heap.size := h.noG (Nat.le_refl _)
    have hX2 := HT.out.1.lt
    have hg2 : w.heap.size < w2.heap.size := HT.out.2.2.2
    have CX := HT.out.1.cx true
    have dr : Below w2.heap.size w2 w2.drew := (Below.refl _ _).drew
    have i1 := clone_fst HT.out.1 true Z2.lt
    have M : Hid (∀ q w3, Cl1 w2 T true q w3 → _) := fun q w3 H => clone_mid_true HT.out.1 (q := q) (w1 := w3) H
    have i2 : Hid (∀ q w3, Cl1 w2 T true q w3 → _) := fun q w3 H => clone_snd_true HT.out.1 (q := q) (w1 := w3) H Z2.lt
    have E : Hid (∀ q y w3 w5, Cl1 w2 T true q w3 → Cl2 (w3.setCell ⟨X, 0, none⟩ (.pointer (some ⟨q, 0, none⟩))) T true y w5 → _) := fun q y w3 w5 H H2 => clone_end_true HT.out.1 (q := q) (w1 := w3) (w2 := w5) (y := y) H H2
    have fin : Hid (∀ q y w', (∃ T', Tw w' X ρ { ({ S with kp := kpt } : Wb.BS) with p0 := .pointer (some ⟨q, 0, none⟩), x0 := .pointer (some ⟨y, 0, none⟩) } T' ∧ Goes w2 X T w' T' ∧ ∀ c, ∃ d, (T' c).L = (T d).L) → PlP w X m N T w') := fun q y w' ⟨T', A1, A2, A3⟩ => ⟨ρ, _, T', A1, ⟨(by obtain ⟨a, q1, q2⟩ := hc.a; exact ⟨a, q1, by show a + S.L2.length ≤ m + 2; omega⟩), hc.e, hc.o, hc.tx⟩, (Goes.same h HT.out.1 HT.out.2.2.1).trans A2, fun c => by obtain ⟨d, hd⟩ := A3 c; rw [hd]; have := hN d; omega⟩
    have HN := hid hN
    generalize (T true).L.length = sz at *
    generalize (T true).y = yy at *
    generalize (T true).q = qq at *
    generalize (T false).y = yd at *
    generalize (T false).q = qd at *
    have S0 := ct
    have u1 : IntKind.i64.wrap ((1 : Int) - 1) = 0 := by decide
    have u2 : IntKind.i64.wrap (0 : Int) = 0 := by decide
    clear R2 Z2 Z h hN hc _u nX nG hX2 hg2 CX dr e3 e4 e5 ct
    go_enter Tryd.func30, Tryd.ntmps30
    go_wp2_with (go_at_call 49; refine i0.mono ?_; rintro r w3 ⟨rfl, hw3⟩; have hw3 := hw3.symm; subst hw3)
    go_region_held3 (fun w' => w'.cell? ⟨X, 1, none⟩ = some (.pointer (some ⟨qq, 0, none⟩))) (first | exact S0 | exact S3 | exact S4) ((go_at_call 15; (with_reducible refine i1.mono ?_); rintro r w3 ⟨q3, rfl, H3⟩; obtain ⟨⟨S3, d3, z3⟩, S4, S5⟩ := M.out _ _ H3.out))
    have i3 := i2.out _ _ H3.out
    clear S0 S3 S4 i1 i2 d3 z3
    obtain ⟨w4, hw4⟩ : ∃ w4, w3.setCell ⟨X, 0, none⟩ (.pointer (some ⟨q3, 0, none⟩)) = w4 := ⟨_, rfl⟩
    have E2 : Hid (∀ y w5, Cl2 w4 T true y w5 → _) := fun y w5 H2 => E.out q3 y w3 w5 H3.out (hw4.symm ▸ H2)
    rw [hw4] at S5 i3 ⊢
    clear hw4
    go_wp2
    go_region_held3 (fun w' => w'.cell? ⟨X, 3, none⟩ = some (.pointer (some ⟨yy, 0, none⟩))) (first | exact S5 | exact S6 | exact S7) ((go_at_call 55; (with_reducible refine i3.mono ?_); rintro r w5 ⟨y5, rfl, H5⟩; obtain ⟨⟨S6, d6, z6⟩, S7, S8, S9⟩ := E2.out _ _ H5.out))
    have S9 := hid S9
    clear S5 S6 S7 d6 z6
    go_wp2
    go_ret
    exact ⟨rfl, fin.out _ _ _ S9.out⟩
end Go.Proofs.YtfddkmkibfmmgaaDoor

namespace Go.Proofs.YtfddkmkibfmmgaaDoor
open Go.RowKit
set_option maxRecDepth 100000 in
set_option maxHeartbeats 4000000 in
theorem play_sizes {w : World} {X : Nat} {ρ : Wb.Rol} {S : Wb.BS} {T : Bool → TS} (h : Tw w X ρ S T) {m N : Nat} (hc : Ct S m) (hm : m ≤ 230) (oth kpt : Bool) (n mm : Int) (hn1 : -9223372036854775808 ≤ n ∧ n ≤ 9223372036854775807) (hm1 : -9223372036854775808 ≤ mm ∧ mm ≤ 9223372036854775807) (s : List UInt8) (Z : Tb w) (hX4 : 4 ≤ X) (hN : ∀ c, (T c).L.length ≤ N) (hN2 : N ≤ 100000) :
    Calls Tryd.prog 30 #[ptr X, .agg #[.bool oth, .bool kpt, .int .i64 13, .int .i64 n, .int .i64 mm, .string ⟨s.toArray⟩]] w fun r w' => r = .returned (.bool true) ∧ PlP w X m N T w' := by
  have _u := And.intro hm (And.intro hn1 (And.intro hm1 hN2))
  unfold ptr
  cases oth
  · obtain ⟨w1, w2, hw1, hw2, y1, y7, f7, HT⟩ := play_start h false kpt 13 n mm s
    have R2 := HT.out.2.1
    unfold OpC at R2
    have e0 : w2.cell? ⟨w.heap.size, 0, none⟩ = some (.bool false) := by rw [cell_of_row _ _ _ _ _ _ R2]; rfl
    have e2 : w2.cell? ⟨w.heap.size, 2, none⟩ = some (.int .i64 13) := by rw [cell_of_row _ _ _ _ _ _ R2]; rfl
    have e3 : w2.cell? ⟨w.heap.size, 3, none⟩ = some (.int .i64 n) := by rw [cell_of_row _ _ _ _ _ _ R2]; rfl
    have e4 : w2.cell? ⟨w.heap.size, 4, none⟩ = some (.int .i64 mm) := by rw [cell_of_row _ _ _ _ _ _ R2]; rfl
    have e5 : w2.cell? ⟨w.heap.size, 5, none⟩ = some (.string ⟨s.toArray⟩) := by rw [cell_of_row _ _ _ _ _ _ R2]; rfl
    have i0 := rSizeL (HT.out.1.r false)
    have cx : w2.cell? ⟨X, 2, none⟩ = some (.pointer (some ⟨(T false).y, 0, none⟩)) := HT.out.1.cx false
    have ct : w2.cell? ⟨X, 0, none⟩ = some (.pointer (some ⟨(T false).q, 0, none⟩)) := HT.out.1.ct false
    have Z2 : Tb w2 := Z.below HT.out.2.2.1 hX4
    have lb := hN false
    have nX := HT.out.1.noX
    have nG : NoT T w.heap.size := h.noG (Nat.le_refl _)
    have hX2 := HT.out.1.lt
    have hg2 : w.heap.size < w2.heap.size := HT.out.2.2.2
    have CX := HT.out.1.cx false
    have dr : Below w2.heap.size w2 w2.drew := (Below.refl _ _).drew
    have fin : Hid (∀ w', Below w2.heap.size w2 w' → PlP w X m N T w') := fun w' bb => PlP.of h (HT.out.1.below bb) ⟨(by obtain ⟨a, q1, q2⟩ := hc.a; exact ⟨a, q1, by show a + S.L2.length ≤ m + 2; omega⟩), hc.e, hc.o, hc.tx⟩ (HT.out.2.2.1.trans (bb.mono (Nat.le_of_lt HT.out.1.lt))) hN
    have t1 := tSizeL ((HT.out.1.t false).below dr)
    have t2 := tHeightL ((HT.out.1.t false).below dr)
    have t3 := rHeightL ((HT.out.1.r false).below dr)
    have HN := hid hN
    have D := hid dr
    have S0 : w2.cell? ⟨X, 0, none⟩ = some (.pointer (some ⟨(T false).q, 0, none⟩)) ∧ w2.cell? ⟨X, 2, none⟩ = some (.pointer (some ⟨(T false).y, 0, none⟩)) := ⟨ct, cx⟩
    generalize (T false).L.length = sz at *
    generalize (T false).h = ht at *
    generalize (T false).y = yy at *
    generalize (T false).q = qq at *
    clear R2 Z2 Z h hN hc _u nX nG hX2 hg2 CX dr e3 e4 e5 ct
    go_enter Tryd.func30, Tryd.ntmps30
    go_wp2_with (go_at_call 49; refine i0.mono ?_; rintro r w3 ⟨rfl, hw3⟩; have hw3 := hw3.symm; subst hw3)
    go_region_held3 (fun w' => w'.cell? ⟨X, 0, none⟩ = some (.pointer (some ⟨qq, 0, none⟩)) ∧ w'.cell? ⟨X, 2, none⟩ = some (.pointer (some ⟨yy, 0, none⟩))) (exact S0) (first
      | (go_at_call 10; refine t1.mono ?_; rintro r w9 ⟨rfl, rfl⟩)
      | (go_at_call 9; refine t2.mono ?_; rintro r w9 ⟨rfl, rfl⟩)
      | (go_at_call 56; refine t3.mono ?_; rintro r w9 ⟨rfl, rfl⟩))
    go_wp2
    go_ret
    exact ⟨rfl, fin.out _ D.out⟩
  · obtain ⟨w1, w2, hw1, hw2, y1, y7, f7, HT⟩ := play_start h true kpt 13 n mm s
    have R2 := HT.out.2.1
    unfold OpC at R2
    have e0 : w2.cell? ⟨w.heap.size, 0, none⟩ = some (.bool true) := by rw [cell_of_row _ _ _ _ _ _ R2]; rfl
    have e2 : w2.cell? ⟨w.heap.size, 2, none⟩ = some (.int .i64 13) := by rw [cell_of_row _ _ _ _ _ _ R2]; rfl
    have e3 : w2.cell? ⟨w.heap.size, 3, none⟩ = some (.int .i64 n) := by rw [cell_of_row _ _ _ _ _ _ R2]; rfl
    have e4 : w2.cell? ⟨w.heap.size, 4, none⟩ = some (.int .i64 mm) := by rw [cell_of_row _ _ _ _ _ _ R2]; rfl
    have e5 : w2.cell? ⟨w.heap.size, 5, none⟩ = some (.string ⟨s.toArray⟩) := by rw [cell_of_row _ _ _ _ _ _ R2]; rfl
    have i0 := rSizeL (HT.out.1.r true)
    have cx : w2.cell? ⟨X, 3, none⟩ = some (.pointer (some ⟨(T true).y, 0, none⟩)) := HT.out.1.cx true
    have ct : w2.cell? ⟨X, 1, none⟩ = some (.pointer (some ⟨(T true).q, 0, none⟩)) := HT.out.1.ct true
    have Z2 : Tb w2 := Z.below HT.out.2.2.1 hX4
    have lb := hN true
    have nX := HT.out.1.noX
    have nG : NoT T w.heap.size := h.noG (Nat.le_refl _)
    have hX2 := HT.out.1.lt
    have hg2 : w.heap.size < w2.heap.size := HT.out.2.2.2
    have CX := HT.out.1.cx true
    have dr : Below w2.heap.size w2 w2.drew := (Below.refl _ _).drew
    have fin : Hid (∀ w', Below w2.heap.size w2 w' → PlP w X m N T w') := fun w' bb => PlP.of h (HT.out.1.below bb) ⟨(by obtain ⟨a, q1, q2⟩ := hc.a; exact ⟨a, q1, by show a + S.L2.length ≤ m + 2; omega⟩), hc.e, hc.o, hc.tx⟩ (HT.out.2.2.1.trans (bb.mono (Nat.le_of_lt HT.out.1.lt))) hN
    have t1 := tSizeL ((HT.out.1.t true).below dr)
    have t2 := tHeightL ((HT.out.1.t true).below dr)
    have t3 := rHeightL ((HT.out.1.r true).below dr)
    have HN := hid hN
    have D := hid dr
    have S0 : w2.cell? ⟨X, 1, none⟩ = some (.pointer (some ⟨(T true).q, 0, none⟩)) ∧ w2.cell? ⟨X, 3, none⟩ = some (.pointer (some ⟨(T true).y, 0, none⟩)) := ⟨ct, cx⟩
    generalize (T true).L.length = sz at *
    generalize (T true).h = ht at *
    generalize (T true).y = yy at *
    generalize (T true).q = qq at *
    clear R2 Z2 Z h hN hc _u nX nG hX2 hg2 CX dr e3 e4 e5 ct
    go_enter Tryd.func30, Tryd.ntmps30
    go_wp2_with (go_at_call 49; refine i0.mono ?_; rintro r w3 ⟨rfl, hw3⟩; have hw3 := hw3.symm; subst hw3)
    go_region_held3 (fun w' => w'.cell? ⟨X, 1, none⟩ = some (.pointer (some ⟨qq, 0, none⟩)) ∧ w'.cell? ⟨X, 3, none⟩ = some (.pointer (some ⟨yy, 0, none⟩))) (exact S0) (first
      | (go_at_call 10; refine t1.mono ?_; rintro r w9 ⟨rfl, rfl⟩)
      | (go_at_call 9; refine t2.mono ?_; rintro r w9 ⟨rfl, rfl⟩)
      | (go_at_call 56; refine t3.mono ?_; rintro r w9 ⟨rfl, rfl⟩))
    go_wp2
    go_ret
    exact ⟨rfl, fin.out _ D.out⟩
set_option maxRecDepth 100000 in
set_option maxHeartbeats 4000000 in
theorem play_none {w : World} {X : Nat} {ρ : Wb.Rol} {S : Wb.BS} {T : Bool → TS} (h : Tw w X ρ S T) {m N : Nat} (hc : Ct S m) (oth kpt : Bool) (kd n mm : Int) (s : List UInt8) (hN : ∀ c, (T c).L.length ≤ N) (hk : kd < 1 ∨ 14 < kd) :
    Calls Tryd.prog 30 #[ptr X, .agg #[.bool oth, .bool kpt, .int .i64 kd, .int .i64 n, .int .i64 mm, .string ⟨s.toArray⟩]] w fun r w' => r = .returned (.bool true) ∧ PlP w X m N T w' := by
  unfold ptr
  cases oth
  · obtain ⟨w1, w2, hw1, hw2, y1, y7, f7, HT⟩ := play_start h false kpt kd n mm s
    have R2 := HT.out.2.1
    unfold OpC at R2
    have e0 : w2.cell? ⟨w.heap.size, 0, none⟩ = some (.bool false) := by rw [cell_of_row _ _ _ _ _ _ R2]; rfl
    have e2 : w2.cell? ⟨w.heap.size, 2, none⟩ = some (.int .i64 kd) := by rw [cell_of_row _ _ _ _ _ _ R2]; rfl
    have i0 := rSizeL (HT.out.1.r false)
    have cx : w2.cell? ⟨X, 2, none⟩ = some (.pointer (some ⟨(T false).y, 0, none⟩)) := HT.out.1.cx false
    have fin : Hid (∀ w', Below w2.heap.size w2 w' → PlP w X m N T w') := fun w' bb => PlP.of h (HT.out.1.below bb) ⟨(by obtain ⟨a, q1, q2⟩ := hc.a; exact ⟨a, q1, by show a + S.L2.length ≤ m + 2; omega⟩), hc.e, hc.o, hc.tx⟩ (HT.out.2.2.1.trans (bb.mono (Nat.le_of_lt HT.out.1.lt))) hN
    have n1 : ¬ kd = 1 := by omega
    have n2 : ¬ kd = 2 := by omega
    have n3 : ¬ kd = 3 := by omega
    have n4 : ¬ kd = 4 := by omega
    have n5 : ¬ kd = 5 := by omega
    have n6 : ¬ kd = 6 := by omega
    have n7 : ¬ kd = 7 := by omega
    have n8 : ¬ kd = 8 := by omega
    have n9 : ¬ kd = 9 := by omega
    have n10 : ¬ kd = 10 := by omega
    have n11 : ¬ kd = 11 := by omega
    have n12 : ¬ kd = 12 := by omega
    have n13 : ¬ kd = 13 := by omega
    have n14 : ¬ kd = 14 := by omega
    clear R2 hk
    generalize (T false).L.length = sz at *
    generalize (T false).y = yy at *
    clear h hN hc
    go_enter Tryd.func30, Tryd.ntmps30
    go_wp2_with (go_at_call 49; refine i0.mono ?_; rintro r w3 ⟨rfl, hw3⟩; have hw3 := hw3.symm; subst hw3)
    go_ret
    exact ⟨rfl, fin.out _ (Below.refl _ _)⟩
  · obtain ⟨w1, w2, hw1, hw2, y1, y7, f7, HT⟩ := play_start h true kpt kd n mm s
    have R2 := HT.out.2.1
    unfold OpC at R2
    have e0 : w2.cell? ⟨w.heap.size, 0, none⟩ = some (.bool true) := by rw [cell_of_row _ _ _ _ _ _ R2]; rfl
    have e2 : w2.cell? ⟨w.heap.size, 2, none⟩ = some (.int .i64 kd) := by rw [cell_of_row _ _ _ _ _ _ R2]; rfl
    have i0 := rSizeL (HT.out.1.r true)
    have cx : w2.cell? ⟨X, 3, none⟩ = some (.pointer (some ⟨(T true).y, 0, none⟩)) := HT.out.1.cx true
    have fin : Hid (∀ w', Below w2.heap.size w2 w' → PlP w X m N T w') := fun w' bb => PlP.of h (HT.out.1.below bb) ⟨(by obtain ⟨a, q1, q2⟩ := hc.a; exact ⟨a, q1, by show a + S.L2.length ≤ m + 2; omega⟩), hc.e, hc.o, hc.tx⟩ (HT.out.2.2.1.trans (bb.mono (Nat.le_of_lt HT.out.1.lt))) hN
    have n1 : ¬ kd = 1 := by omega
    have n2 : ¬ kd = 2 := by omega
    have n3 : ¬ kd = 3 := by omega
    have n4 : ¬ kd = 4 := by omega
    have n5 : ¬ kd = 5 := by omega
    have n6 : ¬ kd = 6 := by omega
    have n7 : ¬ kd = 7 := by omega
    have n8 : ¬ kd = 8 := by omega
    have n9 : ¬ kd = 9 := by omega
    have n10 : ¬ kd = 10 := by omega
    have n11 : ¬ kd = 11 := by omega
    have n12 : ¬ kd = 12 := by omega
    have n13 : ¬ kd = 13 := by omega
    have n14 : ¬ kd = 14 := by omega
    clear R2 hk
    generalize (T true).L.length = sz at *
    generalize (T true).y = yy at *
    clear h hN hc
    go_enter Tryd.func30, Tryd.ntmps30
    go_wp2_with (go_at_call 49; refine i0.mono ?_; rintro r w3 ⟨rfl, hw3⟩; have hw3 := hw3.symm; subst hw3)
    go_ret
    exact ⟨rfl, fin.out _ (Below.refl _ _)⟩
end Go.Proofs.YtfddkmkibfmmgaaDoor
