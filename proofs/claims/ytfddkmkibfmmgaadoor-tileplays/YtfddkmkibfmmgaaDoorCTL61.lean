import Derived.Test.YtfddkmkibfmmgaaDoorCTL59
import Derived.Test.YtfddkmkibfmmgaaDoorCTL16
namespace Go.Proofs.YtfddkmkibfmmgaaDoor
open Go.RowKit
set_option maxRecDepth 100000 in
set_option maxHeartbeats 4000000 in
theorem play_leaf {w : World} {X : Nat} {ρ : Wb.Rol} {S : Wb.BS} {T : Bool → TS} (h : Tw w X ρ S T) {m N : Nat} (hc : Ct S m) (hm : m ≤ 230) (oth kpt : Bool) (n mm : Int) (hn1 : -9223372036854775808 ≤ n ∧ n ≤ 9223372036854775807) (hm1 : -9223372036854775808 ≤ mm ∧ mm ≤ 9223372036854775807) (s : List UInt8) (Z : Tb w) (hX4 : 4 ≤ X) (hN : ∀ c, (T c).L.length ≤ N) (hN2 : N ≤ 100000) :
    Calls Tryd.prog 30 #[ptr X, .agg #[.bool oth, .bool kpt, .int .i64 2, .int .i64 n, .int .i64 mm, .string ⟨s.toArray⟩]] w fun r w' => r = .returned (.bool true) ∧ PlP w X m N T w' := by
  have _u := And.intro hm (And.intro hn1 (And.intro hm1 hN2))
  unfold ptr
  cases oth
  · obtain ⟨w1, w2, hw1, hw2, y1, y7, f7, HT⟩ := play_start h false kpt 2 n mm s
    have R2 := HT.out.2.1
    unfold OpC at R2
    have e0 : w2.cell? ⟨w.heap.size, 0, none⟩ = some (.bool false) := by rw [cell_of_row _ _ _ _ _ _ R2]; rfl
    have e2 : w2.cell? ⟨w.heap.size, 2, none⟩ = some (.int .i64 2) := by rw [cell_of_row _ _ _ _ _ _ R2]; rfl
    have e3 : w2.cell? ⟨w.heap.size, 3, none⟩ = some (.int .i64 n) := by rw [cell_of_row _ _ _ _ _ _ R2]; rfl
    have e4 : w2.cell? ⟨w.heap.size, 4, none⟩ = some (.int .i64 mm) := by rw [cell_of_row _ _ _ _ _ _ R2]; rfl
    have e5 : w2.cell? ⟨w.heap.size, 5, none⟩ = some (.string ⟨s.toArray⟩) := by rw [cell_of_row _ _ _ _ _ _ R2]; rfl
    have i0 := rSizeL (HT.out.1.r false)
    have cx : w2.cell? ⟨X, 2, none⟩ = some (.pointer (some ⟨(T false).y, 0, none⟩)) := HT.out.1.cx false
    have ct : w2.cell? ⟨X, 0, none⟩ = some (.pointer (some ⟨(T false).q, 0, none⟩)) := HT.out.1.ct false
    have Z2 : Tb w2 := Z.below HT.out.2.2.1 hX4
    have lb := hN false
    have nX := HT.out.1.noX
    have nG : NoT T w.heap.size := h.noG (Nat.le_refl _)
    have hX2 := HT.out.1.lt
    have hg2 : w.heap.size < w2.heap.size := HT.out.2.2.2
    have CX := HT.out.1.cx false
    have dr : Below w2.heap.size w2 w2.drew := (Below.refl _ _).drew
    obtain ⟨r, hr⟩ : ∃ r, Hid (lf n = r) := ⟨_, rfl⟩
    have il := lleaf_at n r hr w2.drew
    have il2 := fun w' : World => lleaf_at n r hr w'
    have i1 : Hid (∀ w3, Below w2.heap.size w2 w3 → Calls Tryd.prog 17 #[.pointer (some ⟨(T false).q, 0, none⟩), sv r] w3 fun e w' => e = .returned (.int .i64 (adZ r)) ∧ Hid (Half w3 T false r w')) := fun w3 b3 => add_fst (HT.out.1.below b3) false r (by omega) (Z2.below b3 Z2.lt)
    have i2 : Hid (∀ w3 w4 w5, Below w2.heap.size w2 w3 → Half w3 T false r w4 → Below w4.heap.size w4 w5 → Calls Tryd.prog 50 #[.pointer (some ⟨(T false).y, 0, none⟩), sv r] w5 fun e w' => e = .returned (.int .i64 (adZ r)) ∧ Hid (∃ T', Addd w3 X ρ { S with kp := kpt } T w' T')) := fun w3 w4 w5 b3 H b5 => add_snd (HT.out.1.below b3) false r (by omega) (H.below b5) (by have := Z2.lt; obtain ⟨_, _, hh⟩ := H; have := hh.keep.size; have := b3.size; have := b5.size; omega)
    have A0 : Hid (∀ w3, Below w2.heap.size w2 w3 → w3.cell? ⟨X, 0, none⟩ = some (.pointer (some ⟨(T false).q, 0, none⟩)) ∧ w3.cell? ⟨w.heap.size, 3, none⟩ = some (.int .i64 n)) := fun w3 b3 => ⟨(b3.cell (p := ⟨X, 0, none⟩) hX2).trans ct, (b3.cell (p := ⟨w.heap.size, 3, none⟩) hg2).trans e3⟩
    have C0 : Hid (∀ w3 w4, Below w2.heap.size w2 w3 → Half w3 T false r w4 → (w4.cell? ⟨X, 0, none⟩ = some (.pointer (some ⟨(T false).q, 0, none⟩)) ∧ w4.cell? ⟨w.heap.size, 3, none⟩ = some (.int .i64 n)) ∧ w4.cell? ⟨X, 2, none⟩ = some (.pointer (some ⟨(T false).y, 0, none⟩)) ∧ w4.cell? ⟨w.heap.size, 3, none⟩ = some (.int .i64 n)) := fun w3 w4 b3 H => by
      have q1 := World.cell?_of_block (w := w2) (a := ⟨X, 0, none⟩) ((H.block (g := X) (Nat.lt_of_lt_of_le hX2 b3.size) nX).trans (b3.block X hX2))
      have q2 := World.cell?_of_block (w := w2) (a := ⟨X, 2, none⟩) ((H.block (g := X) (Nat.lt_of_lt_of_le hX2 b3.size) nX).trans (b3.block X hX2))
      have q3 := World.cell?_of_block (w := w2) (a := ⟨w.heap.size, 3, none⟩) ((H.block (g := w.heap.size) (Nat.lt_of_lt_of_le hg2 b3.size) nG).trans (b3.block w.heap.size hg2))
      exact ⟨⟨q1.trans ct, q3.trans e3⟩, q2.trans cx, q3.trans e3⟩
    have C1 : Hid (∀ w3 w4 w5, Below w2.heap.size w2 w3 → Half w3 T false r w4 → Below w4.heap.size w4 w5 → w5.cell? ⟨X, 2, none⟩ = some (.pointer (some ⟨(T false).y, 0, none⟩)) ∧ w5.cell? ⟨w.heap.size, 3, none⟩ = some (.int .i64 n)) := fun w3 w4 w5 b3 H b5 => (C0.out w3 w5 b3 (H.below b5)).2
    have C2 : Hid (∀ w3 w', Below w2.heap.size w2 w3 → (∃ T', Addd w3 X ρ { S with kp := kpt } T w' T') → w'.cell? ⟨X, 2, none⟩ = some (.pointer (some ⟨(T false).y, 0, none⟩)) ∧ w'.cell? ⟨w.heap.size, 3, none⟩ = some (.int .i64 n)) := fun w3 w' b3 ⟨T', A⟩ =>
      ⟨(World.cell?_of_block (w := w2) (a := ⟨X, 2, none⟩) ((A.bl X (Nat.lt_of_lt_of_le hX2 b3.size) nX).1.trans (b3.block X hX2))).trans cx, (World.cell?_of_block (w := w2) (a := ⟨w.heap.size, 3, none⟩) ((A.bl w.heap.size (Nat.lt_of_lt_of_le hg2 b3.size) nG).1.trans (b3.block w.heap.size hg2))).trans e3⟩
    have fin : Hid (∀ w3 w', Below w2.heap.size w2 w3 → (∃ T', Addd w3 X ρ { S with kp := kpt } T w' T') → PlP w X m N T w') := fun w3 w' b3 ⟨T', A⟩ => ⟨ρ, _, T', A.tw, ⟨(by obtain ⟨a, q1, q2⟩ := hc.a; exact ⟨a, q1, by show a + S.L2.length ≤ m + 2; omega⟩), hc.e, hc.o, hc.tx⟩, (Goes.same h (HT.out.1.below b3) (HT.out.2.2.1.trans (b3.mono (Nat.le_of_lt hX2)))).trans A.go, fun c => by have := hN c; have := A.ln c; omega⟩
    have HN := hid hN
    have S0 := A0.out w2 (Below.refl _ _)
    have D := hid dr
    generalize (T false).L.length = sz at *
    generalize (T false).y = yy at *
    generalize (T false).q = qq at *
    generalize adZ r = z at *
    rw [show sv r = Value.string ⟨r.toArray⟩ from rfl] at i1 i2 il
    clear R2 Z2 Z h hN hc _u nX nG hX2 hg2 CX dr ct e3 e4 e5
    go_enter Tryd.func30, Tryd.ntmps30
    go_wp2_with (go_at_call 49; refine i0.mono ?_; rintro r w3 ⟨rfl, hw3⟩; have hw3 := hw3.symm; subst hw3)
    go_region_held3 (fun w' => w'.cell? ⟨X, 0, none⟩ = some (.pointer (some ⟨qq, 0, none⟩)) ∧ w'.cell? ⟨w.heap.size, 3, none⟩ = some (.int .i64 n)) (first | exact S0 | exact S3 | exact S4) (first
      | (go_at_call 16; (with_reducible refine il.mono ?_); rintro e w3 ⟨rfl, hw3⟩; have B3 := hid (D.out.trans hw3); have S3 := A0.out _ B3.out)
      | (go_at_call 17; (with_reducible refine (i1.out w3 B3.out).mono ?_); rintro e w4 ⟨rfl, H4⟩; have S4 := (C0.out _ _ B3.out H4.out).1))
    have S5 := (C0.out _ _ B3.out H4.out).2
    have il := il2 w4.drew
    rw [show sv r = Value.string ⟨r.toArray⟩ from rfl] at il
    have D4 := hid (show Below w4.heap.size w4 w4.drew from (Below.refl _ _).drew)
    clear S0 S3 S4 i1 cx
    go_wp2
    go_region_held3 (fun w' => w'.cell? ⟨X, 2, none⟩ = some (.pointer (some ⟨yy, 0, none⟩)) ∧ w'.cell? ⟨w.heap.size, 3, none⟩ = some (.int .i64 n)) (first | exact S5 | exact S6 | exact S7) (first
      | (go_at_call 16; (with_reducible refine il.mono ?_); rintro e w5 ⟨rfl, hw5⟩; have B5 := hid (D4.out.trans hw5); have S6 := C1.out _ _ _ B3.out H4.out B5.out)
      | (go_at_call 50; (with_reducible refine (i2.out _ _ _ B3.out H4.out B5.out).mono ?_); rintro e w6 ⟨rfl, H6⟩; have S7 := C2.out _ _ B3.out H6.out))
    go_wp2
    go_ret
    exact ⟨rfl, fin.out _ _ B3.out H6.out⟩
  · obtain ⟨w1, w2, hw1, hw2, y1, y7, f7, HT⟩ := play_start h true kpt 2 n mm s
    have R2 := HT.out.2.1
    unfold OpC at R2
    have e0 : w2.cell? ⟨w.heap.size, 0, none⟩ = some (.bool true) := by rw [cell_of_row _ _ _ _ _ _ R2]; rfl
    have e2 : w2.cell? ⟨w.heap.size, 2, none⟩ = some (.int .i64 2) := by rw [cell_of_row _ _ _ _ _ _ R2]; rfl
    have e3 : w2.cell? ⟨w.heap.size, 3, none⟩ = some (.int .i64 n) := by rw [cell_of_row _ _ _ _ _ _ R2]; rfl
    have e4 : w2.cell? ⟨w.heap.size, 4, none⟩ = some (.int .i64 mm) := by rw [cell_of_row _ _ _ _ _ _ R2]; rfl
    have e5 : w2.cell? ⟨w.heap.size, 5, none⟩ = some (.string ⟨s.toArray⟩) := by rw [cell_of_row _ _ _ _ _ _ R2]; rfl
    have i0 := rSizeL (HT.out.1.r true)
    have cx : w2.cell? ⟨X, 3, none⟩ = some (.pointer (some ⟨(T true).y, 0, none⟩)) := HT.out.1.cx true
    have ct : w2.cell? ⟨X, 1, none⟩ = some (.pointer (some ⟨(T true).q, 0, none⟩)) := HT.out.1.ct true
    have Z2 : Tb w2 := Z.below HT.out.2.2.1 hX4
    have lb := hN true
    have nX := HT.out.1.noX
    have nG : NoT T w.heap.size := h.noG (Nat.le_refl _)
    have hX2 := HT.out.1.lt
    have hg2 : w.heap.size < w2.heap.size := HT.out.2.2.2
    have CX := HT.out.1.cx true
    have dr : Below w2.heap.size w2 w2.drew := (Below.refl _ _).drew
    obtain ⟨r, hr⟩ : ∃ r, Hid (lf n = r) := ⟨_, rfl⟩
    have il := lleaf_at n r hr w2.drew
    have il2 := fun w' : World => lleaf_at n r hr w'
    have i1 : Hid (∀ w3, Below w2.heap.size w2 w3 → Calls Tryd.prog 17 #[.pointer (some ⟨(T true).q, 0, none⟩), sv r] w3 fun e w' => e = .returned (.int .i64 (adZ r)) ∧ Hid (Half w3 T true r w')) := fun w3 b3 => add_fst (HT.out.1.below b3) true r (by omega) (Z2.below b3 Z2.lt)
    have i2 : Hid (∀ w3 w4 w5, Below w2.heap.size w2 w3 → Half w3 T true r w4 → Below w4.heap.size w4 w5 → Calls Tryd.prog 50 #[.pointer (some ⟨(T true).y, 0, none⟩), sv r] w5 fun e w' => e = .returned (.int .i64 (adZ r)) ∧ Hid (∃ T', Addd w3 X ρ { S with kp := kpt } T w' T')) := fun w3 w4 w5 b3 H b5 => add_snd (HT.out.1.below b3) true r (by omega) (H.below b5) (by have := Z2.lt; obtain ⟨_, _, hh⟩ := H; have := hh.keep.size; have := b3.size; have := b5.size; omega)
    have A0 : Hid (∀ w3, Below w2.heap.size w2 w3 → w3.cell? ⟨X, 1, none⟩ = some (.pointer (some ⟨(T true).q, 0, none⟩)) ∧ w3.cell? ⟨w.heap.size, 3, none⟩ = some (.int .i64 n)) := fun w3 b3 => ⟨(b3.cell (p := ⟨X, 1, none⟩) hX2).trans ct, (b3.cell (p := ⟨w.heap.size, 3, none⟩) hg2).trans e3⟩
    have C0 : Hid (∀ w3 w4, Below w2.heap.size w2 w3 → Half w3 T true r w4 → (w4.cell? ⟨X, 1, none⟩ = some (.pointer (some ⟨(T true).q, 0, none⟩)) ∧ w4.cell? ⟨w.heap.size, 3, none⟩ = some (.int .i64 n)) ∧ w4.cell? ⟨X, 3, none⟩ = some (.pointer (some ⟨(T true).y, 0, none⟩)) ∧ w4.cell? ⟨w.heap.size, 3, none⟩ = some (.int .i64 n)) := fun w3 w4 b3 H => by
      have q1 := World.cell?_of_block (w := w2) (a := ⟨X, 1, none⟩) ((H.block (g := X) (Nat.lt_of_lt_of_le hX2 b3.size) nX).trans (b3.block X hX2))
      have q2 := World.cell?_of_block (w := w2) (a := ⟨X, 3, none⟩) ((H.block (g := X) (Nat.lt_of_lt_of_le hX2 b3.size) nX).trans (b3.block X hX2))
      have q3 := World.cell?_of_block (w := w2) (a := ⟨w.heap.size, 3, none⟩) ((H.block (g := w.heap.size) (Nat.lt_of_lt_of_le hg2 b3.size) nG).trans (b3.block w.heap.size hg2))
      exact ⟨⟨q1.trans ct, q3.trans e3⟩, q2.trans cx, q3.trans e3⟩
    have C1 : Hid (∀ w3 w4 w5, Below w2.heap.size w2 w3 → Half w3 T true r w4 → Below w4.heap.size w4 w5 → w5.cell? ⟨X, 3, none⟩ = some (.pointer (some ⟨(T true).y, 0, none⟩)) ∧ w5.cell? ⟨w.heap.size, 3, none⟩ = some (.int .i64 n)) := fun w3 w4 w5 b3 H b5 => (C0.out w3 w5 b3 (H.below b5)).2
    have C2 : Hid (∀ w3 w', Below w2.heap.size w2 w3 → (∃ T', Addd w3 X ρ { S with kp := kpt } T w' T') → w'.cell? ⟨X, 3, none⟩ = some (.pointer (some ⟨(T true).y, 0, none⟩)) ∧ w'.cell? ⟨w.heap.size, 3, none⟩ = some (.int .i64 n)) := fun w3 w' b3 ⟨T', A⟩ =>
      ⟨(World.cell?_of_block (w := w2) (a := ⟨X, 3, none⟩) ((A.bl X (Nat.lt_of_lt_of_le hX2 b3.size) nX).1.trans (b3.block X hX2))).trans cx, (World.cell?_of_block (w := w2) (a := ⟨w.heap.size, 3, none⟩) ((A.bl w.heap.size (Nat.lt_of_lt_of_le hg2 b3.size) nG).1.trans (b3.block w.heap.size hg2))).trans e3⟩
    have fin : Hid (∀ w3 w', Below w2.heap.size w2 w3 → (∃ T', Addd w3 X ρ { S with kp := kpt } T w' T') → PlP w X m N T w') := fun w3 w' b3 ⟨T', A⟩ => ⟨ρ, _, T', A.tw, ⟨(by obtain ⟨a, q1, q2⟩ := hc.a; exact ⟨a, q1, by show a + S.L2.length ≤ m + 2; omega⟩), hc.e, hc.o, hc.tx⟩, (Goes.same h (HT.out.1.below b3) (HT.out.2.2.1.trans (b3.mono (Nat.le_of_lt hX2)))).trans A.go, fun c => by have := hN c; have := A.ln c; omega⟩
    have HN := hid hN
    have S0 := A0.out w2 (Below.refl _ _)
    have D := hid dr
    generalize (T true).L.length = sz at *
    generalize (T true).y = yy at *
    generalize (T true).q = qq at *
    generalize adZ r = z at *
    rw [show sv r = Value.string ⟨r.toArray⟩ from rfl] at i1 i2 il
    clear R2 Z2 Z h hN hc _u nX nG hX2 hg2 CX dr ct e3 e4 e5
    go_enter Tryd.func30, Tryd.ntmps30
    go_wp2_with (go_at_call 49; refine i0.mono ?_; rintro r w3 ⟨rfl, hw3⟩; have hw3 := hw3.symm; subst hw3)
    go_region_held3 (fun w' => w'.cell? ⟨X, 1, none⟩ = some (.pointer (some ⟨qq, 0, none⟩)) ∧ w'.cell? ⟨w.heap.size, 3, none⟩ = some (.int .i64 n)) (first | exact S0 | exact S3 | exact S4) (first
      | (go_at_call 16; (with_reducible refine il.mono ?_); rintro e w3 ⟨rfl, hw3⟩; have B3 := hid (D.out.trans hw3); have S3 := A0.out _ B3.out)
      | (go_at_call 17; (with_reducible refine (i1.out w3 B3.out).mono ?_); rintro e w4 ⟨rfl, H4⟩; have S4 := (C0.out _ _ B3.out H4.out).1))
    have S5 := (C0.out _ _ B3.out H4.out).2
    have il := il2 w4.drew
    rw [show sv r = Value.string ⟨r.toArray⟩ from rfl] at il
    have D4 := hid (show Below w4.heap.size w4 w4.drew from (Below.refl _ _).drew)
    clear S0 S3 S4 i1 cx
    go_wp2
    go_region_held3 (fun w' => w'.cell? ⟨X, 3, none⟩ = some (.pointer (some ⟨yy, 0, none⟩)) ∧ w'.cell? ⟨w.heap.size, 3, none⟩ = some (.int .i64 n)) (first | exact S5 | exact S6 | exact S7) (first
      | (go_at_call 16; (with_reducible refine il.mono ?_); rintro e w5 ⟨rfl, hw5⟩; have B5 := hid (D4.out.trans hw5); have S6 := C1.out _ _ _ B3.out H4.out B5.out)
      | (go_at_call 50; (with_reducible refine (i2.out _ _ _ B3.out H4.out B5.out).mono ?_); rintro e w6 ⟨rfl, H6⟩; have S7 := C2.out _ _ B3.out H6.out))
    go_wp2
    go_ret
    exact ⟨rfl, fin.out _ _ B3.out H6.out⟩
end Go.Proofs.YtfddkmkibfmmgaaDoor
