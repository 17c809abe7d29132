import Derived.Test.YtfddkmkibfmmgaaDoorCTL59
import Derived.Test.YtfddkmkibfmmgaaDoorCTL16
namespace Go.Proofs.YtfddkmkibfmmgaaDoor
open Go.RowKit
/-- while many leaves are added -/
structure Lp (w : World) (X g : Nat) (ρ : Wb.Rol) (S : Wb.BS) (T : Bool → TS) (N k : Nat) (row : Option Obj) (w' : World) (T' : Bool → TS) : Prop where
  tw : Tw w' X ρ S T'
  go : Goes w X T w' T'
  ln : ∀ c, (T' c).L.length ≤ N + k
  qy : ∀ c, (T' c).q = (T c).q ∧ (T' c).y = (T c).y
  rw : w'.heap[g]? = row
  ng : NoT T' g
  lt : g < w'.heap.size
theorem Lp.next {w : World} {X g : Nat} {ρ : Wb.Rol} {S : Wb.BS} {T : Bool → TS} {N k : Nat} {row : Option Obj} {w1 w2 w3 : World} {T1 T2 : Bool → TS} (L : Lp w X g ρ S T N k row w1 T1) (hb : Below w1.heap.size w1 w2) (A : Addd w2 X ρ S T1 w3 T2) : Lp w X g ρ S T N (k + 1) row w3 T2 := by
  have hl : g < w2.heap.size := Nat.lt_of_lt_of_le L.lt hb.size
  refine ⟨A.tw, (L.go.trans (Goes.same L.tw (L.tw.below hb) (hb.mono (Nat.le_of_lt L.tw.lt)))).trans A.go, fun c => by have := L.ln c; have := A.ln c; omega, fun c => ⟨(A.qy c).1.trans (L.qy c).1, (A.qy c).2.trans (L.qy c).2⟩, ?_, (A.bl g hl L.ng).2, Nat.lt_of_lt_of_le hl A.sz⟩
  exact ((A.bl g hl L.ng).1.trans (hb.block g L.lt)).trans L.rw
theorem Lp.tb {w : World} {X g : Nat} {ρ ρ' : Wb.Rol} {S S' : Wb.BS} {T : Bool → TS} {N k : Nat} {row : Option Obj} {w1 : World} {T1 : Bool → TS} (L : Lp w X g ρ S T N k row w1 T1) (h : Tw w X ρ' S' T) (Z : Tb w) (hX : 4 ≤ X) : Tb w1 :=
  Z.below (L.go.1 4 hX (fun c k hk => (h.t c).low k hk) (fun c k hk => (h.r c).low k hk)).1 (Nat.le_refl _)
set_option maxRecDepth 100000 in
set_option maxHeartbeats 4000000 in
theorem play_many {w : World} {X : Nat} {ρ : Wb.Rol} {S : Wb.BS} {T : Bool → TS} (h : Tw w X ρ S T) {m N : Nat} (hc : Ct S m) (hm : m ≤ 230) (oth kpt : Bool) (n mm : Int) (hn1 : -9223372036854775808 ≤ n ∧ n ≤ 9223372036854775807) (hm1 : -9223372036854775808 ≤ mm ∧ mm ≤ 9223372036854775807) (s : List UInt8) (Z : Tb w) (hX4 : 4 ≤ X) (hN : ∀ c, (T c).L.length ≤ N) (hN2 : N ≤ 100000) :
    Calls Tryd.prog 30 #[ptr X, .agg #[.bool oth, .bool kpt, .int .i64 3, .int .i64 n, .int .i64 mm, .string ⟨s.toArray⟩]] w fun r w' => r = .returned (.bool true) ∧ PlP w X m N T w' := by
  have _u := And.intro hm (And.intro hn1 (And.intro hm1 hN2))
  unfold ptr
  cases oth
  · obtain ⟨w1, w2, hw1, hw2, y1, y7, f7, HT⟩ := play_start h false kpt 3 n mm s
    have R2 := HT.out.2.1
    unfold OpC at R2
    have e0 : w2.cell? ⟨w.heap.size, 0, none⟩ = some (.bool false) := by rw [cell_of_row _ _ _ _ _ _ R2]; rfl
    have e2 : w2.cell? ⟨w.heap.size, 2, none⟩ = some (.int .i64 3) := by rw [cell_of_row _ _ _ _ _ _ R2]; rfl
    have e3 : w2.cell? ⟨w.heap.size, 3, none⟩ = some (.int .i64 n) := by rw [cell_of_row _ _ _ _ _ _ R2]; rfl
    have e4 : w2.cell? ⟨w.heap.size, 4, none⟩ = some (.int .i64 mm) := by rw [cell_of_row _ _ _ _ _ _ R2]; rfl
    have e5 : w2.cell? ⟨w.heap.size, 5, none⟩ = some (.string ⟨s.toArray⟩) := by rw [cell_of_row _ _ _ _ _ _ R2]; rfl
    have i0 := rSizeL (HT.out.1.r false)
    have cx : w2.cell? ⟨X, 2, none⟩ = some (.pointer (some ⟨(T false).y, 0, none⟩)) := HT.out.1.cx false
    have ct : w2.cell? ⟨X, 0, none⟩ = some (.pointer (some ⟨(T false).q, 0, none⟩)) := HT.out.1.ct false
    have Z2 : Tb w2 := Z.below HT.out.2.2.1 hX4
    have lb := hN false
    have nX := HT.out.1.noX
    have nG : NoT T w.heap.size := h.noG (Nat.le_refl _)
    have hX2 := HT.out.1.lt
    have hg2 : w.heap.size < w2.heap.size := HT.out.2.2.2
    have CX := HT.out.1.cx false
    have dr : Below w2.heap.size w2 w2.drew := (Below.refl _ _).drew
    have P0 := pk_nonneg n 40 (by omega)
    have P1 := pk_lt n 40 (by omega)
    obtain ⟨P, hP⟩ : ∃ P : Nat, pk n 40 = (P : Int) := ⟨(pk n 40).toNat, by omega⟩
    rw [hP] at P0 P1
    have hP40 : P ≤ 40 := by omega
    have ip : ∀ w' : World, Calls Tryd.prog 28 #[.int .i64 n, .int .i64 40] w' fun e w'' => e = .returned (.int .i64 (P : Int)) ∧ w'' = w' := fun w' => by rw [← hP]; exact pick_any n 40 hn1.1 hn1.2 (by omega) (by omega) w'
    obtain ⟨row, hrow⟩ : ∃ row, w2.heap[w.heap.size]? = row := ⟨_, rfl⟩
    have L0 : Hid (Lp w X w.heap.size ρ { S with kp := kpt } T N 0 row w2 T) := ⟨HT.out.1, Goes.same h HT.out.1 HT.out.2.2.1, hN, fun c => ⟨rfl, rfl⟩, hrow, nG, hg2⟩
    have FN : Hid (∀ k w' T', k ≤ 40 → Lp w X w.heap.size ρ { S with kp := kpt } T N k row w' T' → PlP w X m N T w') := fun k w' T' hk A => ⟨ρ, _, T', A.tw, ⟨(by obtain ⟨a, q1, q2⟩ := hc.a; exact ⟨a, q1, by show a + S.L2.length ≤ m + 2; omega⟩), hc.e, hc.o, hc.tx⟩, A.go, fun c => by have := A.ln c; omega⟩
    have RO : Hid (∀ k w' T', Lp w X w.heap.size ρ { S with kp := kpt } T N k row w' T' → w'.cell? ⟨w.heap.size, 3, none⟩ = some (.int .i64 n) ∧ w'.cell? ⟨w.heap.size, 4, none⟩ = some (.int .i64 mm) ∧ w'.cell? ⟨X, 0, none⟩ = some (.pointer (some ⟨(T false).q, 0, none⟩)) ∧ w'.cell? ⟨X, 2, none⟩ = some (.pointer (some ⟨(T false).y, 0, none⟩))) := fun k w' T' A =>
      ⟨(World.cell?_of_block (w := w2) (a := ⟨w.heap.size, 3, none⟩) (A.rw.trans hrow.symm)).trans e3, (World.cell?_of_block (w := w2) (a := ⟨w.heap.size, 4, none⟩) (A.rw.trans hrow.symm)).trans e4, by rw [← (A.qy false).1]; exact A.tw.ct false, by rw [← (A.qy false).2]; exact A.tw.cx false⟩
    have I1 : Hid (∀ (r : List UInt8) k w' T' w3, k ≤ 40 → Lp w X w.heap.size ρ { S with kp := kpt } T N k row w' T' → Below w'.heap.size w' w3 → Calls Tryd.prog 17 #[.pointer (some ⟨(T false).q, 0, none⟩), .string ⟨r.toArray⟩] w3 fun e w4 => e = .returned (.int .i64 (adZ r)) ∧ Hid (Half w3 T' false r w4)) := fun r k w' T' w3 hk A b3 => by
      rw [← (A.qy false).1]
      exact add_fst (A.tw.below b3) false r (by have := A.ln false; omega) ((A.tb h Z hX4).below b3 (A.tb h Z hX4).lt)
    have I2 : Hid (∀ (r : List UInt8) k w' T' w3 w4 w5, k ≤ 40 → Lp w X w.heap.size ρ { S with kp := kpt } T N k row w' T' → Below w'.heap.size w' w3 → Half w3 T' false r w4 → Below w4.heap.size w4 w5 → Calls Tryd.prog 50 #[.pointer (some ⟨(T false).y, 0, none⟩), .string ⟨r.toArray⟩] w5 fun e w6 => e = .returned (.int .i64 (adZ r)) ∧ Hid (∃ T'', Addd w3 X ρ { S with kp := kpt } T' w6 T'')) := fun r k w' T' w3 w4 w5 hk A b3 H b5 => by
      rw [← (A.qy false).2]
      exact add_snd (A.tw.below b3) false r (by have := A.ln false; omega) (H.below b5) (by have := (A.tb h Z hX4).lt; obtain ⟨_, _, hh⟩ := H; have := hh.keep.size; have := b3.size; have := b5.size; omega)
    have CH : Hid (∀ (r : List UInt8) k w' T' w3 w4, Lp w X w.heap.size ρ { S with kp := kpt } T N k row w' T' → Below w'.heap.size w' w3 → Half w3 T' false r w4 → (w4.cell? ⟨X, 0, none⟩ = some (.pointer (some ⟨(T false).q, 0, none⟩)) ∧ w4.cell? ⟨w.heap.size, 4, none⟩ = some (.int .i64 mm)) ∧ w4.cell? ⟨X, 2, none⟩ = some (.pointer (some ⟨(T false).y, 0, none⟩)) ∧ w4.cell? ⟨w.heap.size, 4, none⟩ = some (.int .i64 mm)) := fun r k w' T' w3 w4 A b3 H => by
      obtain ⟨_, q4, qn, q2⟩ := RO.out k w' T' A
      have lX := A.tw.lt
      have nX' := A.tw.noX
      have z1 := World.cell?_of_block (w := w') (a := ⟨X, 0, none⟩) ((H.block (g := X) (Nat.lt_of_lt_of_le lX b3.size) nX').trans (b3.block X lX))
      have z2 := World.cell?_of_block (w := w') (a := ⟨X, 2, none⟩) ((H.block (g := X) (Nat.lt_of_lt_of_le lX b3.size) nX').trans (b3.block X lX))
      have z3 := World.cell?_of_block (w := w') (a := ⟨w.heap.size, 4, none⟩) ((H.block (g := w.heap.size) (Nat.lt_of_lt_of_le A.lt b3.size) A.ng).trans (b3.block w.heap.size A.lt))
      exact ⟨⟨z1.trans qn, z3.trans q4⟩, z2.trans q2, z3.trans q4⟩
    have CB : Hid (∀ k w' T' w3, Lp w X w.heap.size ρ { S with kp := kpt } T N k row w' T' → Below w'.heap.size w' w3 → w3.cell? ⟨X, 0, none⟩ = some (.pointer (some ⟨(T false).q, 0, none⟩)) ∧ w3.cell? ⟨w.heap.size, 4, none⟩ = some (.int .i64 mm)) := fun k w' T' w3 A b3 => by
      obtain ⟨_, q4, qn, q2⟩ := RO.out k w' T' A
      exact ⟨(b3.cell (p := ⟨X, 0, none⟩) A.tw.lt).trans qn, (b3.cell (p := ⟨w.heap.size, 4, none⟩) A.lt).trans q4⟩
    have CA : Hid (∀ k w' T', Lp w X w.heap.size ρ { S with kp := kpt } T N k row w' T' → w'.cell? ⟨X, 2, none⟩ = some (.pointer (some ⟨(T false).y, 0, none⟩)) ∧ w'.cell? ⟨w.heap.size, 4, none⟩ = some (.int .i64 mm)) := fun k w' T' A => by
      obtain ⟨_, q4, qn, q2⟩ := RO.out k w' T' A
      exact ⟨q2, q4⟩
    have HN := hid hN
    generalize (T false).L.length = sz at *
    generalize (T false).y = yy at *
    generalize (T false).q = qq at *
    clear R2 Z2 Z h hN hc _u nX nG hX2 hg2 CX dr ct e3 e4 e5 hrow hP P0 P1 hn1 hm1 lb
    go_enter Tryd.func30, Tryd.ntmps30
    go_wp2_with (go_at_call 49; refine i0.mono ?_; rintro r w3 ⟨rfl, hw3⟩; have hw3 := hw3.symm; subst hw3)
    clear cx i0 e0 e2
    go_loopw [9] (fun i w' => ∃ (k : Nat) (T' : Bool → TS), k ≤ P ∧ i = .int .i64 (k : Int) ∧ Hid (Lp w X w.heap.size ρ { S with kp := kpt } T N k row w' T')) (fun i _ => P - (intOf i).toNat)
    case atStart => exact ⟨0, T, Nat.zero_le _, rfl, L0⟩
    case round =>
      clear L0
      obtain ⟨k, T', hk, rfl, HL⟩ := hrel
      obtain ⟨d3, d4, _, _⟩ := RO.out _ _ _ HL.out
      by_cases hkP : k < P
      · have b0 : (k : Int) < (P : Int) := by omega
        obtain ⟨r, hr⟩ : ∃ r, Hid (lf (IntKind.i64.wrap (mm + (k : Int))) = r) := ⟨_, rfl⟩
        have il := lleaf_at (IntKind.i64.wrap (mm + (k : Int))) r hr wr.drew
        rw [show sv r = Value.string ⟨r.toArray⟩ from rfl] at il
        have D := hid (show Below wr.heap.size wr wr.drew from (Below.refl _ _).drew)
        have i1 : Hid (∀ w3, Below wr.heap.size wr w3 → _) := fun w3 b3 => I1.out r k wr T' w3 (by omega) HL.out b3
        have i2 : Hid (∀ w3 w4 w5, Below wr.heap.size wr w3 → Half w3 T' false r w4 → Below w4.heap.size w4 w5 → _) := fun w3 w4 w5 b3 H b5 => I2.out r k wr T' w3 w4 w5 (by omega) HL.out b3 H b5
        have A0 : Hid (∀ w3, Below wr.heap.size wr w3 → _) := fun w3 b3 => CB.out k wr T' w3 HL.out b3
        have C0 : Hid (∀ w3 w4, Below wr.heap.size wr w3 → Half w3 T' false r w4 → _) := fun w3 w4 b3 H => CH.out r k wr T' w3 w4 HL.out b3 H
        have C2 : Hid (∀ w3 w6 T'', Below wr.heap.size wr w3 → Addd w3 X ρ { S with kp := kpt } T' w6 T'' → _) := fun w3 w6 T'' b3 A => CA.out (k + 1) w6 T'' (HL.out.next b3 A)
        have S0 := A0.out wr (Below.refl _ _)
        generalize adZ r = z at *
        go_wp2_with (go_at_call 28; refine (ip _).mono ?_; rintro e w3 ⟨rfl, hw3⟩; have hw3 := hw3.symm; subst hw3)
        go_region_held3 (fun w' => w'.cell? ⟨X, 0, none⟩ = some (.pointer (some ⟨qq, 0, none⟩)) ∧ w'.cell? ⟨w.heap.size, 4, none⟩ = some (.int .i64 mm)) (first | exact S0 | exact S3 | exact S4) (first
          | (go_at_call 16; (with_reducible refine il.mono ?_); rintro e w3 ⟨rfl, hw3⟩; have B3 := hid (D.out.trans hw3); have S3 := A0.out _ B3.out)
          | (go_at_call 17; (with_reducible refine (i1.out w3 B3.out).mono ?_); rintro e w4 ⟨rfl, H4⟩; have S4 := (C0.out _ _ B3.out H4.out).1))
        have S5 := (C0.out _ _ B3.out H4.out).2
        have il := lleaf_at (IntKind.i64.wrap (mm + (k : Int))) r hr w4.drew
        rw [show sv r = Value.string ⟨r.toArray⟩ from rfl] at il
        have D4 := hid (show Below w4.heap.size w4 w4.drew from (Below.refl _ _).drew)
        clear S0 S3 S4 i1 d3 d4
        go_wp2
        go_region_held3 (fun w' => w'.cell? ⟨X, 2, none⟩ = some (.pointer (some ⟨yy, 0, none⟩)) ∧ w'.cell? ⟨w.heap.size, 4, none⟩ = some (.int .i64 mm)) (first | exact S5 | exact S6 | exact S7) (first
          | (go_at_call 16; (with_reducible refine il.mono ?_); rintro e w5 ⟨rfl, hw5⟩; have B5 := hid (D4.out.trans hw5); have S6 := (C0.out _ _ B3.out (H4.out.below B5.out)).2)
          | (go_at_call 50; (with_reducible refine (i2.out _ _ _ B3.out H4.out B5.out).mono ?_); rintro e w6 ⟨rfl, H6⟩; obtain ⟨T6, H6⟩ := H6.out; have S7 := C2.out _ _ _ B3.out H6; have H7 := hid (HL.out.next B3.out H6); clear H6))
        clear S5 S6 S7
        go_wp2
        exact ⟨⟨k + 1, T6, by omega, by go_num, H7⟩, by simp [intOf]; omega⟩
      · have b0 : ¬ (k : Int) < (P : Int) := by omega
        go_wp2_with (go_at_call 28; refine (ip _).mono ?_; rintro e w3 ⟨rfl, hw3⟩; have hw3 := hw3.symm; subst hw3)
        go_ret
        exact ⟨rfl, FN.out _ _ _ (by omega) HL.out⟩
  · obtain ⟨w1, w2, hw1, hw2, y1, y7, f7, HT⟩ := play_start h true kpt 3 n mm s
    have R2 := HT.out.2.1
    unfold OpC at R2
    have e0 : w2.cell? ⟨w.heap.size, 0, none⟩ = some (.bool true) := by rw [cell_of_row _ _ _ _ _ _ R2]; rfl
    have e2 : w2.cell? ⟨w.heap.size, 2, none⟩ = some (.int .i64 3) := by rw [cell_of_row _ _ _ _ _ _ R2]; rfl
    have e3 : w2.cell? ⟨w.heap.size, 3, none⟩ = some (.int .i64 n) := by rw [cell_of_row _ _ _ _ _ _ R2]; rfl
    have e4 : w2.cell? ⟨w.heap.size, 4, none⟩ = some (.int .i64 mm) := by rw [cell_of_row _ _ _ _ _ _ R2]; rfl
    have e5 : w2.cell? ⟨w.heap.size, 5, none⟩ = some (.string ⟨s.toArray⟩) := by rw [cell_of_row _ _ _ _ _ _ R2]; rfl
    have i0 := rSizeL (HT.out.1.r true)
    have cx : w2.cell? ⟨X, 3, none⟩ = some (.pointer (some ⟨(T true).y, 0, none⟩)) := HT.out.1.cx true
    have ct : w2.cell? ⟨X, 1, none⟩ = some (.pointer (some ⟨(T true).q, 0, none⟩)) := HT.out.1.ct true
    have Z2 : Tb w2 := Z.below HT.out.2.2.1 hX4
    have lb := hN true
    have nX := HT.out.1.noX
    have nG : NoT T w.heap.size := h.noG (Nat.le_refl _)
    have hX2 := HT.out.1.lt
    have hg2 : w.heap.size < w2.heap.size := HT.out.2.2.2
    have CX := HT.out.1.cx true
    have dr : Below w2.heap.size w2 w2.drew := (Below.refl _ _).drew
    have P0 := pk_nonneg n 40 (by omega)
    have P1 := pk_lt n 40 (by omega)
    obtain ⟨P, hP⟩ : ∃ P : Nat, pk n 40 = (P : Int) := ⟨(pk n 40).toNat, by omega⟩
    rw [hP] at P0 P1
    have hP40 : P ≤ 40 := by omega
    have ip : ∀ w' : World, Calls Tryd.prog 28 #[.int .i64 n, .int .i64 40] w' fun e w'' => e = .returned (.int .i64 (P : Int)) ∧ w'' = w' := fun w' => by rw [← hP]; exact pick_any n 40 hn1.1 hn1.2 (by omega) (by omega) w'
    obtain ⟨row, hrow⟩ : ∃ row, w2.heap[w.heap.size]? = row := ⟨_, rfl⟩
    have L0 : Hid (Lp w X w.heap.size ρ { S with kp := kpt } T N 0 row w2 T) := ⟨HT.out.1, Goes.same h HT.out.1 HT.out.2.2.1, hN, fun c => ⟨rfl, rfl⟩, hrow, nG, hg2⟩
    have FN : Hid (∀ k w' T', k ≤ 40 → Lp w X w.heap.size ρ { S with kp := kpt } T N k row w' T' → PlP w X m N T w') := fun k w' T' hk A => ⟨ρ, _, T', A.tw, ⟨(by obtain ⟨a, q1, q2⟩ := hc.a; exact ⟨a, q1, by show a + S.L2.length ≤ m + 2; omega⟩), hc.e, hc.o, hc.tx⟩, A.go, fun c => by have := A.ln c; omega⟩
    have RO : Hid (∀ k w' T', Lp w X w.heap.size ρ { S with kp := kpt } T N k row w' T' → w'.cell? ⟨w.heap.size, 3, none⟩ = some (.int .i64 n) ∧ w'.cell? ⟨w.heap.size, 4, none⟩ = some (.int .i64 mm) ∧ w'.cell? ⟨X, 1, none⟩ = some (.pointer (some ⟨(T true).q, 0, none⟩)) ∧ w'.cell? ⟨X, 3, none⟩ = some (.pointer (some ⟨(T true).y, 0, none⟩))) := fun k w' T' A =>
      ⟨(World.cell?_of_block (w := w2) (a := ⟨w.heap.size, 3, none⟩) (A.rw.trans hrow.symm)).trans e3, (World.cell?_of_block (w := w2) (a := ⟨w.heap.size, 4, none⟩) (A.rw.trans hrow.symm)).trans e4, by rw [← (A.qy true).1]; exact A.tw.ct true, by rw [← (A.qy true).2]; exact A.tw.cx true⟩
    have I1 : Hid (∀ (r : List UInt8) k w' T' w3, k ≤ 40 → Lp w X w.heap.size ρ { S with kp := kpt } T N k row w' T' → Below w'.heap.size w' w3 → Calls Tryd.prog 17 #[.pointer (some ⟨(T true).q, 0, none⟩), .string ⟨r.toArray⟩] w3 fun e w4 => e = .returned (.int .i64 (adZ r)) ∧ Hid (Half w3 T' true r w4)) := fun r k w' T' w3 hk A b3 => by
      rw [← (A.qy true).1]
      exact add_fst (A.tw.below b3) true r (by have := A.ln true; omega) ((A.tb h Z hX4).below b3 (A.tb h Z hX4).lt)
    have I2 : Hid (∀ (r : List UInt8) k w' T' w3 w4 w5, k ≤ 40 → Lp w X w.heap.size ρ { S with kp := kpt } T N k row w' T' → Below w'.heap.size w' w3 → Half w3 T' true r w4 → Below w4.heap.size w4 w5 → Calls Tryd.prog 50 #[.pointer (some ⟨(T true).y, 0, none⟩), .string ⟨r.toArray⟩] w5 fun e w6 => e = .returned (.int .i64 (adZ r)) ∧ Hid (∃ T'', Addd w3 X ρ { S with kp := kpt } T' w6 T'')) := fun r k w' T' w3 w4 w5 hk A b3 H b5 => by
      rw [← (A.qy true).2]
      exact add_snd (A.tw.below b3) true r (by have := A.ln true; omega) (H.below b5) (by have := (A.tb h Z hX4).lt; obtain ⟨_, _, hh⟩ := H; have := hh.keep.size; have := b3.size; have := b5.size; omega)
    have CH : Hid (∀ (r : List UInt8) k w' T' w3 w4, Lp w X w.heap.size ρ { S with kp := kpt } T N k row w' T' → Below w'.heap.size w' w3 → Half w3 T' true r w4 → (w4.cell? ⟨X, 1, none⟩ = some (.pointer (some ⟨(T true).q, 0, none⟩)) ∧ w4.cell? ⟨w.heap.size, 4, none⟩ = some (.int .i64 mm)) ∧ w4.cell? ⟨X, 3, none⟩ = some (.pointer (some ⟨(T true).y, 0, none⟩)) ∧ w4.cell? ⟨w.heap.size, 4, none⟩ = some (.int .i64 mm)) := fun r k w' T' w3 w4 A b3 H => by
      obtain ⟨_, q4, qn, q2⟩ := RO.out k w' T' A
      have lX := A.tw.lt
      have nX' := A.tw.noX
      have z1 := World.cell?_of_block (w := w') (a := ⟨X, 1, none⟩) ((H.block (g := X) (Nat.lt_of_lt_of_le lX b3.size) nX').trans (b3.block X lX))
      have z2 := World.cell?_of_block (w := w') (a := ⟨X, 3, none⟩) ((H.block (g := X) (Nat.lt_of_lt_of_le lX b3.size) nX').trans (b3.block X lX))
      have z3 := World.cell?_of_block (w := w') (a := ⟨w.heap.size, 4, none⟩) ((H.block (g := w.heap.size) (Nat.lt_of_lt_of_le A.lt b3.size) A.ng).trans (b3.block w.heap.size A.lt))
      exact ⟨⟨z1.trans qn, z3.trans q4⟩, z2.trans q2, z3.trans q4⟩
    have CB : Hid (∀ k w' T' w3, Lp w X w.heap.size ρ { S with kp := kpt } T N k row w' T' → Below w'.heap.size w' w3 → w3.cell? ⟨X, 1, none⟩ = some (.pointer (some ⟨(T true).q, 0, none⟩)) ∧ w3.cell? ⟨w.heap.size, 4, none⟩ = some (.int .i64 mm)) := fun k w' T' w3 A b3 => by
      obtain ⟨_, q4, qn, q2⟩ := RO.out k w' T' A
      exact ⟨(b3.cell (p := ⟨X, 1, none⟩) A.tw.lt).trans qn, (b3.cell (p := ⟨w.heap.size, 4, none⟩) A.lt).trans q4⟩
    have CA : Hid (∀ k w' T', Lp w X w.heap.size ρ { S with kp := kpt } T N k row w' T' → w'.cell? ⟨X, 3, none⟩ = some (.pointer (some ⟨(T true).y, 0, none⟩)) ∧ w'.cell? ⟨w.heap.size, 4, none⟩ = some (.int .i64 mm)) := fun k w' T' A => by
      obtain ⟨_, q4, qn, q2⟩ := RO.out k w' T' A
      exact ⟨q2, q4⟩
    have HN := hid hN
    generalize (T true).L.length = sz at *
    generalize (T true).y = yy at *
    generalize (T true).q = qq at *
    clear R2 Z2 Z h hN hc _u nX nG hX2 hg2 CX dr ct e3 e4 e5 hrow hP P0 P1 hn1 hm1 lb
    go_enter Tryd.func30, Tryd.ntmps30
    go_wp2_with (go_at_call 49; refine i0.mono ?_; rintro r w3 ⟨rfl, hw3⟩; have hw3 := hw3.symm; subst hw3)
    clear cx i0 e0 e2
    go_loopw [9] (fun i w' => ∃ (k : Nat) (T' : Bool → TS), k ≤ P ∧ i = .int .i64 (k : Int) ∧ Hid (Lp w X w.heap.size ρ { S with kp := kpt } T N k row w' T')) (fun i _ => P - (intOf i).toNat)
    case atStart => exact ⟨0, T, Nat.zero_le _, rfl, L0⟩
    case round =>
      clear L0
      obtain ⟨k, T', hk, rfl, HL⟩ := hrel
      obtain ⟨d3, d4, _, _⟩ := RO.out _ _ _ HL.out
      by_cases hkP : k < P
      · have b0 : (k : Int) < (P : Int) := by omega
        obtain ⟨r, hr⟩ : ∃ r, Hid (lf (IntKind.i64.wrap (mm + (k : Int))) = r) := ⟨_, rfl⟩
        have il := lleaf_at (IntKind.i64.wrap (mm + (k : Int))) r hr wr.drew
        rw [show sv r = Value.string ⟨r.toArray⟩ from rfl] at il
        have D := hid (show Below wr.heap.size wr wr.drew from (Below.refl _ _).drew)
        have i1 : Hid (∀ w3, Below wr.heap.size wr w3 → _) := fun w3 b3 => I1.out r k wr T' w3 (by omega) HL.out b3
        have i2 : Hid (∀ w3 w4 w5, Below wr.heap.size wr w3 → Half w3 T' true r w4 → Below w4.heap.size w4 w5 → _) := fun w3 w4 w5 b3 H b5 => I2.out r k wr T' w3 w4 w5 (by omega) HL.out b3 H b5
        have A0 : Hid (∀ w3, Below wr.heap.size wr w3 → _) := fun w3 b3 => CB.out k wr T' w3 HL.out b3
        have C0 : Hid (∀ w3 w4, Below wr.heap.size wr w3 → Half w3 T' true r w4 → _) := fun w3 w4 b3 H => CH.out r k wr T' w3 w4 HL.out b3 H
        have C2 : Hid (∀ w3 w6 T'', Below wr.heap.size wr w3 → Addd w3 X ρ { S with kp := kpt } T' w6 T'' → _) := fun w3 w6 T'' b3 A => CA.out (k + 1) w6 T'' (HL.out.next b3 A)
        have S0 := A0.out wr (Below.refl _ _)
        generalize adZ r = z at *
        go_wp2_with (go_at_call 28; refine (ip _).mono ?_; rintro e w3 ⟨rfl, hw3⟩; have hw3 := hw3.symm; subst hw3)
        go_region_held3 (fun w' => w'.cell? ⟨X, 1, none⟩ = some (.pointer (some ⟨qq, 0, none⟩)) ∧ w'.cell? ⟨w.heap.size, 4, none⟩ = some (.int .i64 mm)) (first | exact S0 | exact S3 | exact S4) (first
          | (go_at_call 16; (with_reducible refine il.mono ?_); rintro e w3 ⟨rfl, hw3⟩; have B3 := hid (D.out.trans hw3); have S3 := A0.out _ B3.out)
          | (go_at_call 17; (with_reducible refine (i1.out w3 B3.out).mono ?_); rintro e w4 ⟨rfl, H4⟩; have S4 := (C0.out _ _ B3.out H4.out).1))
        have S5 := (C0.out _ _ B3.out H4.out).2
        have il := lleaf_at (IntKind.i64.wrap (mm + (k : Int))) r hr w4.drew
        rw [show sv r = Value.string ⟨r.toArray⟩ from rfl] at il
        have D4 := hid (show Below w4.heap.size w4 w4.drew from (Below.refl _ _).drew)
        clear S0 S3 S4 i1 d3 d4
        go_wp2
        go_region_held3 (fun w' => w'.cell? ⟨X, 3, none⟩ = some (.pointer (some ⟨yy, 0, none⟩)) ∧ w'.cell? ⟨w.heap.size, 4, none⟩ = some (.int .i64 mm)) (first | exact S5 | exact S6 | exact S7) (first
          | (go_at_call 16; (with_reducible refine il.mono ?_); rintro e w5 ⟨rfl, hw5⟩; have B5 := hid (D4.out.trans hw5); have S6 := (C0.out _ _ B3.out (H4.out.below B5.out)).2)
          | (go_at_call 50; (with_reducible refine (i2.out _ _ _ B3.out H4.out B5.out).mono ?_); rintro e w6 ⟨rfl, H6⟩; obtain ⟨T6, H6⟩ := H6.out; have S7 := C2.out _ _ _ B3.out H6; have H7 := hid (HL.out.next B3.out H6); clear H6))
        clear S5 S6 S7
        go_wp2
        exact ⟨⟨k + 1, T6, by omega, by go_num, H7⟩, by simp [intOf]; omega⟩
      · have b0 : ¬ (k : Int) < (P : Int) := by omega
        go_wp2_with (go_at_call 28; refine (ip _).mono ?_; rintro e w3 ⟨rfl, hw3⟩; have hw3 := hw3.symm; subst hw3)
        go_ret
        exact ⟨rfl, FN.out _ _ _ (by omega) HL.out⟩
end Go.Proofs.YtfddkmkibfmmgaaDoor
