import Derived.Test.YtfddkmkibfmmgaaDoorCTL57
import Derived.Test.YtfddkmkibfmmgaaDoorCTL32
namespace Go.Proofs.YtfddkmkibfmmgaaDoor
open Go.RowKit
set_option maxRecDepth 100000 in
set_option maxHeartbeats 2000000 in
theorem play_past {w : World} {X : Nat} {ρ : Wb.Rol} {S : Wb.BS} {T : Bool → TS} (h : Tw w X ρ S T) {m N : Nat} (hc : Ct S m) (hm : m ≤ 230) (oth kpt : Bool) (n mm : Int) (hn1 : -9223372036854775808 ≤ n ∧ n ≤ 9223372036854775807) (hm1 : -9223372036854775808 ≤ mm ∧ mm ≤ 9223372036854775807) (s : List UInt8) (Z : Tb w) (hX4 : 4 ≤ X) (hN : ∀ c, (T c).L.length ≤ N) (hN2 : N ≤ 100000) :
    Calls Tryd.prog 30 #[ptr X, .agg #[.bool oth, .bool kpt, .int .i64 9, .int .i64 n, .int .i64 mm, .string ⟨s.toArray⟩]] w fun r w' => r = .returned (.bool true) ∧ PlP w X m N T w' := by
  have _u := And.intro hm (And.intro hn1 (And.intro hm1 hN2))
  unfold ptr
  cases oth
  · obtain ⟨w1, w2, hw1, hw2, y1, y7, f7, HT⟩ := play_start h false kpt 9 n mm s
    have R2 := HT.out.2.1
    unfold OpC at R2
    have e0 : w2.cell? ⟨w.heap.size, 0, none⟩ = some (.bool false) := by rw [cell_of_row _ _ _ _ _ _ R2]; rfl
    have e2 : w2.cell? ⟨w.heap.size, 2, none⟩ = some (.int .i64 9) := by rw [cell_of_row _ _ _ _ _ _ R2]; rfl
    have e3 : w2.cell? ⟨w.heap.size, 3, none⟩ = some (.int .i64 n) := by rw [cell_of_row _ _ _ _ _ _ R2]; rfl
    have e4 : w2.cell? ⟨w.heap.size, 4, none⟩ = some (.int .i64 mm) := by rw [cell_of_row _ _ _ _ _ _ R2]; rfl
    have i0 := rSizeL (HT.out.1.r false)
    have cx : w2.cell? ⟨X, 2, none⟩ = some (.pointer (some ⟨(T false).y, 0, none⟩)) := HT.out.1.cx false
    have Z2 : Tb w2 := Z.below HT.out.2.2.1 hX4
    have lb := hN false
    have fin : Hid (∀ w', Below w2.heap.size w2 w' → PlP w X m N T w') := fun w' bb => PlP.of h (HT.out.1.below bb) ⟨(by obtain ⟨a, q1, q2⟩ := hc.a; exact ⟨a, q1, by show a + S.L2.length ≤ m + 2; omega⟩), hc.e, hc.o, hc.tx⟩ (HT.out.2.2.1.trans (bb.mono (Nat.le_of_lt HT.out.1.lt))) hN
    have ip := pick_any n (((T false).L.length : Int) + 1) hn1.1 hn1.2 (by omega) (by omega) w2
    generalize pk n (((T false).L.length : Int) + 1) = pp at *
    have i1 := wroot_any HT.out.1 false pp Z2
    unfold ptr at i1
    rw [show kN false = 0 from rfl] at i1

    have HN := hid hN
    generalize (T false).L.length = sz at *
    generalize (T false).y = yy at *
    have hkd : ∀ j : Int, True := fun _ => trivial
    clear R2 Z2 Z hkd h hN hc _u
    go_enter Tryd.func30, Tryd.ntmps30
    go_wp2_with (first
      | (go_at_call 49; refine i0.mono ?_; rintro r w3 ⟨rfl, hw3⟩; have hw3 := hw3.symm; subst hw3)
      | (go_at_call 28; refine ip.mono ?_; rintro r w5 ⟨rfl, hw5⟩; have hw5 := hw5.symm; subst hw5)
      | (go_at_call 53; refine i1.mono ?_; rintro r w4 ⟨rfl, hw4⟩))
    go_ret
    exact ⟨rfl, fin.out _ hw4⟩
  · obtain ⟨w1, w2, hw1, hw2, y1, y7, f7, HT⟩ := play_start h true kpt 9 n mm s
    have R2 := HT.out.2.1
    unfold OpC at R2
    have e0 : w2.cell? ⟨w.heap.size, 0, none⟩ = some (.bool true) := by rw [cell_of_row _ _ _ _ _ _ R2]; rfl
    have e2 : w2.cell? ⟨w.heap.size, 2, none⟩ = some (.int .i64 9) := by rw [cell_of_row _ _ _ _ _ _ R2]; rfl
    have e3 : w2.cell? ⟨w.heap.size, 3, none⟩ = some (.int .i64 n) := by rw [cell_of_row _ _ _ _ _ _ R2]; rfl
    have e4 : w2.cell? ⟨w.heap.size, 4, none⟩ = some (.int .i64 mm) := by rw [cell_of_row _ _ _ _ _ _ R2]; rfl
    have i0 := rSizeL (HT.out.1.r true)
    have cx : w2.cell? ⟨X, 3, none⟩ = some (.pointer (some ⟨(T true).y, 0, none⟩)) := HT.out.1.cx true
    have Z2 : Tb w2 := Z.below HT.out.2.2.1 hX4
    have lb := hN true
    have fin : Hid (∀ w', Below w2.heap.size w2 w' → PlP w X m N T w') := fun w' bb => PlP.of h (HT.out.1.below bb) ⟨(by obtain ⟨a, q1, q2⟩ := hc.a; exact ⟨a, q1, by show a + S.L2.length ≤ m + 2; omega⟩), hc.e, hc.o, hc.tx⟩ (HT.out.2.2.1.trans (bb.mono (Nat.le_of_lt HT.out.1.lt))) hN
    have ip := pick_any n (((T true).L.length : Int) + 1) hn1.1 hn1.2 (by omega) (by omega) w2
    generalize pk n (((T true).L.length : Int) + 1) = pp at *
    have i1 := wroot_any HT.out.1 true pp Z2
    unfold ptr at i1
    rw [show kN true = 1 from rfl] at i1

    have HN := hid hN
    generalize (T true).L.length = sz at *
    generalize (T true).y = yy at *
    have hkd : ∀ j : Int, True := fun _ => trivial
    clear R2 Z2 Z hkd h hN hc _u
    go_enter Tryd.func30, Tryd.ntmps30
    go_wp2_with (first
      | (go_at_call 49; refine i0.mono ?_; rintro r w3 ⟨rfl, hw3⟩; have hw3 := hw3.symm; subst hw3)
      | (go_at_call 28; refine ip.mono ?_; rintro r w5 ⟨rfl, hw5⟩; have hw5 := hw5.symm; subst hw5)
      | (go_at_call 53; refine i1.mono ?_; rintro r w4 ⟨rfl, hw4⟩))
    go_ret
    exact ⟨rfl, fin.out _ hw4⟩
set_option maxRecDepth 100000 in
set_option maxHeartbeats 2000000 in
theorem play_near {w : World} {X : Nat} {ρ : Wb.Rol} {S : Wb.BS} {T : Bool → TS} (h : Tw w X ρ S T) {m N : Nat} (hc : Ct S m) (hm : m ≤ 230) (oth kpt : Bool) (n mm : Int) (hn1 : -9223372036854775808 ≤ n ∧ n ≤ 9223372036854775807) (hm1 : -9223372036854775808 ≤ mm ∧ mm ≤ 9223372036854775807) (s : List UInt8) (Z : Tb w) (hX4 : 4 ≤ X) (hN : ∀ c, (T c).L.length ≤ N) (hN2 : N ≤ 100000) :
    Calls Tryd.prog 30 #[ptr X, .agg #[.bool oth, .bool kpt, .int .i64 7, .int .i64 n, .int .i64 mm, .string ⟨s.toArray⟩]] w fun r w' => r = .returned (.bool true) ∧ PlP w X m N T w' := by
  have _u := And.intro hm (And.intro hn1 (And.intro hm1 hN2))
  unfold ptr
  cases oth
  · obtain ⟨w1, w2, hw1, hw2, y1, y7, f7, HT⟩ := play_start h false kpt 7 n mm s
    have R2 := HT.out.2.1
    unfold OpC at R2
    have e0 : w2.cell? ⟨w.heap.size, 0, none⟩ = some (.bool false) := by rw [cell_of_row _ _ _ _ _ _ R2]; rfl
    have e2 : w2.cell? ⟨w.heap.size, 2, none⟩ = some (.int .i64 7) := by rw [cell_of_row _ _ _ _ _ _ R2]; rfl
    have e3 : w2.cell? ⟨w.heap.size, 3, none⟩ = some (.int .i64 n) := by rw [cell_of_row _ _ _ _ _ _ R2]; rfl
    have e4 : w2.cell? ⟨w.heap.size, 4, none⟩ = some (.int .i64 mm) := by rw [cell_of_row _ _ _ _ _ _ R2]; rfl
    have i0 := rSizeL (HT.out.1.r false)
    have cx : w2.cell? ⟨X, 2, none⟩ = some (.pointer (some ⟨(T false).y, 0, none⟩)) := HT.out.1.cx false
    have Z2 : Tb w2 := Z.below HT.out.2.2.1 hX4
    have lb := hN false
    have fin : Hid (∀ w', Below w2.heap.size w2 w' → PlP w X m N T w') := fun w' bb => PlP.of h (HT.out.1.below bb) ⟨(by obtain ⟨a, q1, q2⟩ := hc.a; exact ⟨a, q1, by show a + S.L2.length ≤ m + 2; omega⟩), hc.e, hc.o, hc.tx⟩ (HT.out.2.2.1.trans (bb.mono (Nat.le_of_lt HT.out.1.lt))) hN
    have ip := lspan_any n mm (T false).L.length (by omega) hn1 hm1 w2
    have i1 := fun (bb ee : Nat) w' (hb : Below w2.heap.size w2 w') => wpart_any (HT.out.1.below hb) false (bb : Int) (ee : Int) (Z2.below hb Z2.lt)
    unfold ptr at i1
    rw [show kN false = 0 from rfl] at i1

    have HN := hid hN
    generalize (T false).L.length = sz at *
    generalize (T false).y = yy at *
    have hkd : ∀ j : Int, True := fun _ => trivial
    clear R2 Z2 Z hkd h hN hc _u
    go_enter Tryd.func30, Tryd.ntmps30
    go_wp2_with (first
      | (go_at_call 49; refine i0.mono ?_; rintro r w3 ⟨rfl, hw3⟩; have hw3 := hw3.symm; subst hw3)
      | (go_at_call 22; refine ip.mono ?_; rintro r w5 ⟨bb, ee, rfl, _, _, hw5⟩)
      | (go_at_call 52; refine (i1 bb ee w5 hw5).mono ?_; rintro r w4 ⟨rfl, hw4⟩))
    go_ret
    exact ⟨rfl, fin.out _ (hw5.trans (hw4.mono hw5.size))⟩
  · obtain ⟨w1, w2, hw1, hw2, y1, y7, f7, HT⟩ := play_start h true kpt 7 n mm s
    have R2 := HT.out.2.1
    unfold OpC at R2
    have e0 : w2.cell? ⟨w.heap.size, 0, none⟩ = some (.bool true) := by rw [cell_of_row _ _ _ _ _ _ R2]; rfl
    have e2 : w2.cell? ⟨w.heap.size, 2, none⟩ = some (.int .i64 7) := by rw [cell_of_row _ _ _ _ _ _ R2]; rfl
    have e3 : w2.cell? ⟨w.heap.size, 3, none⟩ = some (.int .i64 n) := by rw [cell_of_row _ _ _ _ _ _ R2]; rfl
    have e4 : w2.cell? ⟨w.heap.size, 4, none⟩ = some (.int .i64 mm) := by rw [cell_of_row _ _ _ _ _ _ R2]; rfl
    have i0 := rSizeL (HT.out.1.r true)
    have cx : w2.cell? ⟨X, 3, none⟩ = some (.pointer (some ⟨(T true).y, 0, none⟩)) := HT.out.1.cx true
    have Z2 : Tb w2 := Z.below HT.out.2.2.1 hX4
    have lb := hN true
    have fin : Hid (∀ w', Below w2.heap.size w2 w' → PlP w X m N T w') := fun w' bb => PlP.of h (HT.out.1.below bb) ⟨(by obtain ⟨a, q1, q2⟩ := hc.a; exact ⟨a, q1, by show a + S.L2.length ≤ m + 2; omega⟩), hc.e, hc.o, hc.tx⟩ (HT.out.2.2.1.trans (bb.mono (Nat.le_of_lt HT.out.1.lt))) hN
    have ip := lspan_any n mm (T true).L.length (by omega) hn1 hm1 w2
    have i1 := fun (bb ee : Nat) w' (hb : Below w2.heap.size w2 w') => wpart_any (HT.out.1.below hb) true (bb : Int) (ee : Int) (Z2.below hb Z2.lt)
    unfold ptr at i1
    rw [show kN true = 1 from rfl] at i1

    have HN := hid hN
    generalize (T true).L.length = sz at *
    generalize (T true).y = yy at *
    have hkd : ∀ j : Int, True := fun _ => trivial
    clear R2 Z2 Z hkd h hN hc _u
    go_enter Tryd.func30, Tryd.ntmps30
    go_wp2_with (first
      | (go_at_call 49; refine i0.mono ?_; rintro r w3 ⟨rfl, hw3⟩; have hw3 := hw3.symm; subst hw3)
      | (go_at_call 22; refine ip.mono ?_; rintro r w5 ⟨bb, ee, rfl, _, _, hw5⟩)
      | (go_at_call 52; refine (i1 bb ee w5 hw5).mono ?_; rintro r w4 ⟨rfl, hw4⟩))
    go_ret
    exact ⟨rfl, fin.out _ (hw5.trans (hw4.mono hw5.size))⟩
set_option maxRecDepth 100000 in
set_option maxHeartbeats 2000000 in
theorem play_some {w : World} {X : Nat} {ρ : Wb.Rol} {S : Wb.BS} {T : Bool → TS} (h : Tw w X ρ S T) {m N : Nat} (hc : Ct S m) (hm : m ≤ 230) (oth kpt : Bool) (n mm : Int) (hn1 : -9223372036854775808 ≤ n ∧ n ≤ 9223372036854775807) (hm1 : -9223372036854775808 ≤ mm ∧ mm ≤ 9223372036854775807) (s : List UInt8) (Z : Tb w) (hX4 : 4 ≤ X) (hN : ∀ c, (T c).L.length ≤ N) (hN2 : N ≤ 100000) :
    Calls Tryd.prog 30 #[ptr X, .agg #[.bool oth, .bool kpt, .int .i64 11, .int .i64 n, .int .i64 mm, .string ⟨s.toArray⟩]] w fun r w' => r = .returned (.bool true) ∧ PlP w X m N T w' := by
  have _u := And.intro hm (And.intro hn1 (And.intro hm1 hN2))
  unfold ptr
  cases oth
  · obtain ⟨w1, w2, hw1, hw2, y1, y7, f7, HT⟩ := play_start h false kpt 11 n mm s
    have R2 := HT.out.2.1
    unfold OpC at R2
    have e0 : w2.cell? ⟨w.heap.size, 0, none⟩ = some (.bool false) := by rw [cell_of_row _ _ _ _ _ _ R2]; rfl
    have e2 : w2.cell? ⟨w.heap.size, 2, none⟩ = some (.int .i64 11) := by rw [cell_of_row _ _ _ _ _ _ R2]; rfl
    have e3 : w2.cell? ⟨w.heap.size, 3, none⟩ = some (.int .i64 n) := by rw [cell_of_row _ _ _ _ _ _ R2]; rfl
    have e4 : w2.cell? ⟨w.heap.size, 4, none⟩ = some (.int .i64 mm) := by rw [cell_of_row _ _ _ _ _ _ R2]; rfl
    have i0 := rSizeL (HT.out.1.r false)
    have cx : w2.cell? ⟨X, 2, none⟩ = some (.pointer (some ⟨(T false).y, 0, none⟩)) := HT.out.1.cx false
    have Z2 : Tb w2 := Z.below HT.out.2.2.1 hX4
    have lb := hN false
    have hc2 : Ct { S with kp := kpt } m := ⟨hc.a, hc.e, hc.o, hc.tx⟩
    have fin : Hid (∀ w5 w', Below w2.heap.size w2 w5 → (∃ ρ' S', Tw w' X ρ' S' T ∧ Ct S' (m + 2) ∧ S'.kp = kpt ∧ Below X w5 w') → PlP w X m N T w') := fun w5 w' hb ⟨ρ', S', q1, q2, _, q4⟩ => PlP.of h q1 q2 (HT.out.2.2.1.trans ((hb.mono (Nat.le_of_lt HT.out.1.lt)).trans q4)) hN
    have ip := lspan_any n mm (T false).L.length (by omega) hn1 hm1 w2
    have i1 := fun (bb ee : Nat) w' (hb : Below w2.heap.size w2 w') => wleaves_any (HT.out.1.below hb) hc2 hm false (bb : Int) (ee : Int)
    unfold ptr at i1
    rw [show kN false = 0 from rfl] at i1

    have HN := hid hN
    generalize (T false).L.length = sz at *
    generalize (T false).y = yy at *
    have hkd : ∀ j : Int, True := fun _ => trivial
    clear R2 hc2 Z2 Z hkd h hN hc _u
    go_enter Tryd.func30, Tryd.ntmps30
    go_wp2_with (first
      | (go_at_call 49; refine i0.mono ?_; rintro r w3 ⟨rfl, hw3⟩; have hw3 := hw3.symm; subst hw3)
      | (go_at_call 22; refine ip.mono ?_; rintro r w5 ⟨bb, ee, rfl, _, _, hw5⟩)
      | (go_at_call 54; refine (i1 bb ee w5 hw5).mono ?_; rintro r w4 ⟨rfl, hw4⟩))
    go_ret
    exact ⟨rfl, fin.out _ _ hw5 hw4⟩
  · obtain ⟨w1, w2, hw1, hw2, y1, y7, f7, HT⟩ := play_start h true kpt 11 n mm s
    have R2 := HT.out.2.1
    unfold OpC at R2
    have e0 : w2.cell? ⟨w.heap.size, 0, none⟩ = some (.bool true) := by rw [cell_of_row _ _ _ _ _ _ R2]; rfl
    have e2 : w2.cell? ⟨w.heap.size, 2, none⟩ = some (.int .i64 11) := by rw [cell_of_row _ _ _ _ _ _ R2]; rfl
    have e3 : w2.cell? ⟨w.heap.size, 3, none⟩ = some (.int .i64 n) := by rw [cell_of_row _ _ _ _ _ _ R2]; rfl
    have e4 : w2.cell? ⟨w.heap.size, 4, none⟩ = some (.int .i64 mm) := by rw [cell_of_row _ _ _ _ _ _ R2]; rfl
    have i0 := rSizeL (HT.out.1.r true)
    have cx : w2.cell? ⟨X, 3, none⟩ = some (.pointer (some ⟨(T true).y, 0, none⟩)) := HT.out.1.cx true
    have Z2 : Tb w2 := Z.below HT.out.2.2.1 hX4
    have lb := hN true
    have hc2 : Ct { S with kp := kpt } m := ⟨hc.a, hc.e, hc.o, hc.tx⟩
    have fin : Hid (∀ w5 w', Below w2.heap.size w2 w5 → (∃ ρ' S', Tw w' X ρ' S' T ∧ Ct S' (m + 2) ∧ S'.kp = kpt ∧ Below X w5 w') → PlP w X m N T w') := fun w5 w' hb ⟨ρ', S', q1, q2, _, q4⟩ => PlP.of h q1 q2 (HT.out.2.2.1.trans ((hb.mono (Nat.le_of_lt HT.out.1.lt)).trans q4)) hN
    have ip := lspan_any n mm (T true).L.length (by omega) hn1 hm1 w2
    have i1 := fun (bb ee : Nat) w' (hb : Below w2.heap.size w2 w') => wleaves_any (HT.out.1.below hb) hc2 hm true (bb : Int) (ee : Int)
    unfold ptr at i1
    rw [show kN true = 1 from rfl] at i1

    have HN := hid hN
    generalize (T true).L.length = sz at *
    generalize (T true).y = yy at *
    have hkd : ∀ j : Int, True := fun _ => trivial
    clear R2 hc2 Z2 Z hkd h hN hc _u
    go_enter Tryd.func30, Tryd.ntmps30
    go_wp2_with (first
      | (go_at_call 49; refine i0.mono ?_; rintro r w3 ⟨rfl, hw3⟩; have hw3 := hw3.symm; subst hw3)
      | (go_at_call 22; refine ip.mono ?_; rintro r w5 ⟨bb, ee, rfl, _, _, hw5⟩)
      | (go_at_call 54; refine (i1 bb ee w5 hw5).mono ?_; rintro r w4 ⟨rfl, hw4⟩))
    go_ret
    exact ⟨rfl, fin.out _ _ hw5 hw4⟩
end Go.Proofs.YtfddkmkibfmmgaaDoor
