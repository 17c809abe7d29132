import Derived.Test.YtfddkmkibfmmgaaDoorCTL55
namespace Go.Proofs.YtfddkmkibfmmgaaDoor
open Go.RowKit
set_option maxRecDepth 100000 in
set_option maxHeartbeats 2000000 in
theorem play_part {w : World} {X : Nat} {ρ : Wb.Rol} {S : Wb.BS} {T : Bool → TS} (h : Tw w X ρ S T) {m N : Nat} (hc : Ct S m) (hm : m ≤ 230) (oth kpt : Bool) (n mm : Int) (hn1 : -9223372036854775808 ≤ n ∧ n ≤ 9223372036854775807) (hm1 : -9223372036854775808 ≤ mm ∧ mm ≤ 9223372036854775807) (s : List UInt8) (Z : Tb w) (hX4 : 4 ≤ X) (hN : ∀ c, (T c).L.length ≤ N) (hN2 : N ≤ 100000) :
    Calls Tryd.prog 30 #[ptr X, .agg #[.bool oth, .bool kpt, .int .i64 6, .int .i64 n, .int .i64 mm, .string ⟨s.toArray⟩]] w fun r w' => r = .returned (.bool true) ∧ PlP w X m N T w' := by
  have _u := And.intro hm (And.intro hn1 (And.intro hm1 hN2))
  unfold ptr
  cases oth
  · obtain ⟨w1, w2, hw1, hw2, y1, y7, f7, HT⟩ := play_start h false kpt 6 n mm s
    have R2 := HT.out.2.1
    unfold OpC at R2
    have e0 : w2.cell? ⟨w.heap.size, 0, none⟩ = some (.bool false) := by rw [cell_of_row _ _ _ _ _ _ R2]; rfl
    have e2 : w2.cell? ⟨w.heap.size, 2, none⟩ = some (.int .i64 6) := by rw [cell_of_row _ _ _ _ _ _ R2]; rfl
    have e3 : w2.cell? ⟨w.heap.size, 3, none⟩ = some (.int .i64 n) := by rw [cell_of_row _ _ _ _ _ _ R2]; rfl
    have e4 : w2.cell? ⟨w.heap.size, 4, none⟩ = some (.int .i64 mm) := by rw [cell_of_row _ _ _ _ _ _ R2]; rfl
    have i0 := rSizeL (HT.out.1.r false)
    have cx : w2.cell? ⟨X, 2, none⟩ = some (.pointer (some ⟨(T false).y, 0, none⟩)) := HT.out.1.cx false
    have Z2 : Tb w2 := Z.below HT.out.2.2.1 hX4
    have lb := hN false
    have fin : Hid (∀ w', Below w2.heap.size w2 w' → PlP w X m N T w') := fun w' bb => PlP.of h (HT.out.1.below bb) ⟨(by obtain ⟨a, q1, q2⟩ := hc.a; exact ⟨a, q1, by show a + S.L2.length ≤ m + 2; omega⟩), hc.e, hc.o, hc.tx⟩ (HT.out.2.2.1.trans (bb.mono (Nat.le_of_lt HT.out.1.lt))) hN
    have i1 := wpart_any HT.out.1 false n mm Z2
    unfold ptr at i1
    rw [show kN false = 0 from rfl] at i1

    have HN := hid hN
    generalize (T false).L.length = sz at *
    generalize (T false).y = yy at *
    have hkd : ∀ j : Int, True := fun _ => trivial
    clear R2 Z2 Z hkd h hN hc _u
    go_enter Tryd.func30, Tryd.ntmps30
    go_wp2_with (first
      | (go_at_call 49; refine i0.mono ?_; rintro r w3 ⟨rfl, hw3⟩; have hw3 := hw3.symm; subst hw3)
      | (go_at_call 52; refine i1.mono ?_; rintro r w4 ⟨rfl, hw4⟩))
    go_ret
    exact ⟨rfl, fin.out _ hw4⟩
  · obtain ⟨w1, w2, hw1, hw2, y1, y7, f7, HT⟩ := play_start h true kpt 6 n mm s
    have R2 := HT.out.2.1
    unfold OpC at R2
    have e0 : w2.cell? ⟨w.heap.size, 0, none⟩ = some (.bool true) := by rw [cell_of_row _ _ _ _ _ _ R2]; rfl
    have e2 : w2.cell? ⟨w.heap.size, 2, none⟩ = some (.int .i64 6) := by rw [cell_of_row _ _ _ _ _ _ R2]; rfl
    have e3 : w2.cell? ⟨w.heap.size, 3, none⟩ = some (.int .i64 n) := by rw [cell_of_row _ _ _ _ _ _ R2]; rfl
    have e4 : w2.cell? ⟨w.heap.size, 4, none⟩ = some (.int .i64 mm) := by rw [cell_of_row _ _ _ _ _ _ R2]; rfl
    have i0 := rSizeL (HT.out.1.r true)
    have cx : w2.cell? ⟨X, 3, none⟩ = some (.pointer (some ⟨(T true).y, 0, none⟩)) := HT.out.1.cx true
    have Z2 : Tb w2 := Z.below HT.out.2.2.1 hX4
    have lb := hN true
    have fin : Hid (∀ w', Below w2.heap.size w2 w' → PlP w X m N T w') := fun w' bb => PlP.of h (HT.out.1.below bb) ⟨(by obtain ⟨a, q1, q2⟩ := hc.a; exact ⟨a, q1, by show a + S.L2.length ≤ m + 2; omega⟩), hc.e, hc.o, hc.tx⟩ (HT.out.2.2.1.trans (bb.mono (Nat.le_of_lt HT.out.1.lt))) hN
    have i1 := wpart_any HT.out.1 true n mm Z2
    unfold ptr at i1
    rw [show kN true = 1 from rfl] at i1

    have HN := hid hN
    generalize (T true).L.length = sz at *
    generalize (T true).y = yy at *
    have hkd : ∀ j : Int, True := fun _ => trivial
    clear R2 Z2 Z hkd h hN hc _u
    go_enter Tryd.func30, Tryd.ntmps30
    go_wp2_with (first
      | (go_at_call 49; refine i0.mono ?_; rintro r w3 ⟨rfl, hw3⟩; have hw3 := hw3.symm; subst hw3)
      | (go_at_call 52; refine i1.mono ?_; rintro r w4 ⟨rfl, hw4⟩))
    go_ret
    exact ⟨rfl, fin.out _ hw4⟩
set_option maxRecDepth 100000 in
set_option maxHeartbeats 2000000 in
theorem play_leaves {w : World} {X : Nat} {ρ : Wb.Rol} {S : Wb.BS} {T : Bool → TS} (h : Tw w X ρ S T) {m N : Nat} (hc : Ct S m) (hm : m ≤ 230) (oth kpt : Bool) (n mm : Int) (hn1 : -9223372036854775808 ≤ n ∧ n ≤ 9223372036854775807) (hm1 : -9223372036854775808 ≤ mm ∧ mm ≤ 9223372036854775807) (s : List UInt8) (Z : Tb w) (hX4 : 4 ≤ X) (hN : ∀ c, (T c).L.length ≤ N) (hN2 : N ≤ 100000) :
    Calls Tryd.prog 30 #[ptr X, .agg #[.bool oth, .bool kpt, .int .i64 10, .int .i64 n, .int .i64 mm, .string ⟨s.toArray⟩]] w fun r w' => r = .returned (.bool true) ∧ PlP w X m N T w' := by
  have _u := And.intro hm (And.intro hn1 (And.intro hm1 hN2))
  unfold ptr
  cases oth
  · obtain ⟨w1, w2, hw1, hw2, y1, y7, f7, HT⟩ := play_start h false kpt 10 n mm s
    have R2 := HT.out.2.1
    unfold OpC at R2
    have e0 : w2.cell? ⟨w.heap.size, 0, none⟩ = some (.bool false) := by rw [cell_of_row _ _ _ _ _ _ R2]; rfl
    have e2 : w2.cell? ⟨w.heap.size, 2, none⟩ = some (.int .i64 10) := by rw [cell_of_row _ _ _ _ _ _ R2]; rfl
    have e3 : w2.cell? ⟨w.heap.size, 3, none⟩ = some (.int .i64 n) := by rw [cell_of_row _ _ _ _ _ _ R2]; rfl
    have e4 : w2.cell? ⟨w.heap.size, 4, none⟩ = some (.int .i64 mm) := by rw [cell_of_row _ _ _ _ _ _ R2]; rfl
    have i0 := rSizeL (HT.out.1.r false)
    have cx : w2.cell? ⟨X, 2, none⟩ = some (.pointer (some ⟨(T false).y, 0, none⟩)) := HT.out.1.cx false
    have Z2 : Tb w2 := Z.below HT.out.2.2.1 hX4
    have lb := hN false
    have hc2 : Ct { S with kp := kpt } m := ⟨hc.a, hc.e, hc.o, hc.tx⟩
    have fin : Hid (∀ w', (∃ ρ' S', Tw w' X ρ' S' T ∧ Ct S' (m + 2) ∧ S'.kp = kpt ∧ Below X w2 w') → PlP w X m N T w') := fun w' ⟨ρ', S', q1, q2, _, q4⟩ => PlP.of h q1 q2 (HT.out.2.2.1.trans q4) hN
    have i1 := wleaves_any HT.out.1 hc2 hm false n mm
    unfold ptr at i1
    rw [show kN false = 0 from rfl] at i1

    have HN := hid hN
    generalize (T false).L.length = sz at *
    generalize (T false).y = yy at *
    have hkd : ∀ j : Int, True := fun _ => trivial
    clear R2 hc2 Z2 Z hkd h hN hc _u
    go_enter Tryd.func30, Tryd.ntmps30
    go_wp2_with (first
      | (go_at_call 49; refine i0.mono ?_; rintro r w3 ⟨rfl, hw3⟩; have hw3 := hw3.symm; subst hw3)
      | (go_at_call 54; refine i1.mono ?_; rintro r w4 ⟨rfl, hw4⟩))
    go_ret
    exact ⟨rfl, fin.out _ hw4⟩
  · obtain ⟨w1, w2, hw1, hw2, y1, y7, f7, HT⟩ := play_start h true kpt 10 n mm s
    have R2 := HT.out.2.1
    unfold OpC at R2
    have e0 : w2.cell? ⟨w.heap.size, 0, none⟩ = some (.bool true) := by rw [cell_of_row _ _ _ _ _ _ R2]; rfl
    have e2 : w2.cell? ⟨w.heap.size, 2, none⟩ = some (.int .i64 10) := by rw [cell_of_row _ _ _ _ _ _ R2]; rfl
    have e3 : w2.cell? ⟨w.heap.size, 3, none⟩ = some (.int .i64 n) := by rw [cell_of_row _ _ _ _ _ _ R2]; rfl
    have e4 : w2.cell? ⟨w.heap.size, 4, none⟩ = some (.int .i64 mm) := by rw [cell_of_row _ _ _ _ _ _ R2]; rfl
    have i0 := rSizeL (HT.out.1.r true)
    have cx : w2.cell? ⟨X, 3, none⟩ = some (.pointer (some ⟨(T true).y, 0, none⟩)) := HT.out.1.cx true
    have Z2 : Tb w2 := Z.below HT.out.2.2.1 hX4
    have lb := hN true
    have hc2 : Ct { S with kp := kpt } m := ⟨hc.a, hc.e, hc.o, hc.tx⟩
    have fin : Hid (∀ w', (∃ ρ' S', Tw w' X ρ' S' T ∧ Ct S' (m + 2) ∧ S'.kp = kpt ∧ Below X w2 w') → PlP w X m N T w') := fun w' ⟨ρ', S', q1, q2, _, q4⟩ => PlP.of h q1 q2 (HT.out.2.2.1.trans q4) hN
    have i1 := wleaves_any HT.out.1 hc2 hm true n mm
    unfold ptr at i1
    rw [show kN true = 1 from rfl] at i1

    have HN := hid hN
    generalize (T true).L.length = sz at *
    generalize (T true).y = yy at *
    have hkd : ∀ j : Int, True := fun _ => trivial
    clear R2 hc2 Z2 Z hkd h hN hc _u
    go_enter Tryd.func30, Tryd.ntmps30
    go_wp2_with (first
      | (go_at_call 49; refine i0.mono ?_; rintro r w3 ⟨rfl, hw3⟩; have hw3 := hw3.symm; subst hw3)
      | (go_at_call 54; refine i1.mono ?_; rintro r w4 ⟨rfl, hw4⟩))
    go_ret
    exact ⟨rfl, fin.out _ hw4⟩
set_option maxRecDepth 100000 in
set_option maxHeartbeats 2000000 in
theorem play_hash {w : World} {X : Nat} {ρ : Wb.Rol} {S : Wb.BS} {T : Bool → TS} (h : Tw w X ρ S T) {m N : Nat} (hc : Ct S m) (hm : m ≤ 230) (oth kpt : Bool) (n mm : Int) (hn1 : -9223372036854775808 ≤ n ∧ n ≤ 9223372036854775807) (hm1 : -9223372036854775808 ≤ mm ∧ mm ≤ 9223372036854775807) (s : List UInt8) (Z : Tb w) (hX4 : 4 ≤ X) (hN : ∀ c, (T c).L.length ≤ N) (hN2 : N ≤ 100000) :
    Calls Tryd.prog 30 #[ptr X, .agg #[.bool oth, .bool kpt, .int .i64 4, .int .i64 n, .int .i64 mm, .string ⟨s.toArray⟩]] w fun r w' => r = .returned (.bool true) ∧ PlP w X m N T w' := by
  have _u := And.intro hm (And.intro hn1 (And.intro hm1 hN2))
  unfold ptr
  cases oth
  · obtain ⟨w1, w2, hw1, hw2, y1, y7, f7, HT⟩ := play_start h false kpt 4 n mm s
    have R2 := HT.out.2.1
    unfold OpC at R2
    have e0 : w2.cell? ⟨w.heap.size, 0, none⟩ = some (.bool false) := by rw [cell_of_row _ _ _ _ _ _ R2]; rfl
    have e2 : w2.cell? ⟨w.heap.size, 2, none⟩ = some (.int .i64 4) := by rw [cell_of_row _ _ _ _ _ _ R2]; rfl
    have e3 : w2.cell? ⟨w.heap.size, 3, none⟩ = some (.int .i64 n) := by rw [cell_of_row _ _ _ _ _ _ R2]; rfl
    have e4 : w2.cell? ⟨w.heap.size, 4, none⟩ = some (.int .i64 mm) := by rw [cell_of_row _ _ _ _ _ _ R2]; rfl
    have i0 := rSizeL (HT.out.1.r false)
    have cx : w2.cell? ⟨X, 2, none⟩ = some (.pointer (some ⟨(T false).y, 0, none⟩)) := HT.out.1.cx false
    have Z2 : Tb w2 := Z.below HT.out.2.2.1 hX4
    have lb := hN false
    have hc2 : Ct { S with kp := kpt } m := ⟨hc.a, hc.e, hc.o, hc.tx⟩
    have fin : Hid (∀ w', (∃ ρ' S', Tw w' X ρ' S' T ∧ Ct S' (m + 2) ∧ S'.kp = kpt ∧ Below X w2 w') → PlP w X m N T w') := fun w' ⟨ρ', S', q1, q2, _, q4⟩ => PlP.of h q1 q2 (HT.out.2.2.1.trans q4) hN
    have i1 := whashes_any HT.out.1 hc2 hm false n mm hm1.1 hm1.2
    unfold ptr at i1
    rw [show kN false = 0 from rfl] at i1

    have HN := hid hN
    generalize (T false).L.length = sz at *
    generalize (T false).y = yy at *
    have hkd : ∀ j : Int, True := fun _ => trivial
    clear R2 hc2 Z2 Z hkd h hN hc _u
    go_enter Tryd.func30, Tryd.ntmps30
    go_wp2_with (first
      | (go_at_call 49; refine i0.mono ?_; rintro r w3 ⟨rfl, hw3⟩; have hw3 := hw3.symm; subst hw3)
      | (go_at_call 51; refine i1.mono ?_; rintro r w4 ⟨rfl, hw4⟩))
    go_ret
    exact ⟨rfl, fin.out _ hw4⟩
  · obtain ⟨w1, w2, hw1, hw2, y1, y7, f7, HT⟩ := play_start h true kpt 4 n mm s
    have R2 := HT.out.2.1
    unfold OpC at R2
    have e0 : w2.cell? ⟨w.heap.size, 0, none⟩ = some (.bool true) := by rw [cell_of_row _ _ _ _ _ _ R2]; rfl
    have e2 : w2.cell? ⟨w.heap.size, 2, none⟩ = some (.int .i64 4) := by rw [cell_of_row _ _ _ _ _ _ R2]; rfl
    have e3 : w2.cell? ⟨w.heap.size, 3, none⟩ = some (.int .i64 n) := by rw [cell_of_row _ _ _ _ _ _ R2]; rfl
    have e4 : w2.cell? ⟨w.heap.size, 4, none⟩ = some (.int .i64 mm) := by rw [cell_of_row _ _ _ _ _ _ R2]; rfl
    have i0 := rSizeL (HT.out.1.r true)
    have cx : w2.cell? ⟨X, 3, none⟩ = some (.pointer (some ⟨(T true).y, 0, none⟩)) := HT.out.1.cx true
    have Z2 : Tb w2 := Z.below HT.out.2.2.1 hX4
    have lb := hN true
    have hc2 : Ct { S with kp := kpt } m := ⟨hc.a, hc.e, hc.o, hc.tx⟩
    have fin : Hid (∀ w', (∃ ρ' S', Tw w' X ρ' S' T ∧ Ct S' (m + 2) ∧ S'.kp = kpt ∧ Below X w2 w') → PlP w X m N T w') := fun w' ⟨ρ', S', q1, q2, _, q4⟩ => PlP.of h q1 q2 (HT.out.2.2.1.trans q4) hN
    have i1 := whashes_any HT.out.1 hc2 hm true n mm hm1.1 hm1.2
    unfold ptr at i1
    rw [show kN true = 1 from rfl] at i1

    have HN := hid hN
    generalize (T true).L.length = sz at *
    generalize (T true).y = yy at *
    have hkd : ∀ j : Int, True := fun _ => trivial
    clear R2 hc2 Z2 Z hkd h hN hc _u
    go_enter Tryd.func30, Tryd.ntmps30
    go_wp2_with (first
      | (go_at_call 49; refine i0.mono ?_; rintro r w3 ⟨rfl, hw3⟩; have hw3 := hw3.symm; subst hw3)
      | (go_at_call 51; refine i1.mono ?_; rintro r w4 ⟨rfl, hw4⟩))
    go_ret
    exact ⟨rfl, fin.out _ hw4⟩
set_option maxRecDepth 100000 in
set_option maxHeartbeats 2000000 in
theorem play_tile {w : World} {X : Nat} {ρ : Wb.Rol} {S : Wb.BS} {T : Bool → TS} (h : Tw w X ρ S T) {m N : Nat} (hc : Ct S m) (hm : m ≤ 230) (oth kpt : Bool) (n mm : Int) (hn1 : -9223372036854775808 ≤ n ∧ n ≤ 9223372036854775807) (hm1 : -9223372036854775808 ≤ mm ∧ mm ≤ 9223372036854775807) (s : List UInt8) (Z : Tb w) (hX4 : 4 ≤ X) (hN : ∀ c, (T c).L.length ≤ N) (hN2 : N ≤ 100000) :
    Calls Tryd.prog 30 #[ptr X, .agg #[.bool oth, .bool kpt, .int .i64 5, .int .i64 n, .int .i64 mm, .string ⟨s.toArray⟩]] w fun r w' => r = .returned (.bool true) ∧ PlP w X m N T w' := by
  have _u := And.intro hm (And.intro hn1 (And.intro hm1 hN2))
  unfold ptr
  cases oth
  · obtain ⟨w1, w2, hw1, hw2, y1, y7, f7, HT⟩ := play_start h false kpt 5 n mm s
    have R2 := HT.out.2.1
    unfold OpC at R2
    have e0 : w2.cell? ⟨w.heap.size, 0, none⟩ = some (.bool false) := by rw [cell_of_row _ _ _ _ _ _ R2]; rfl
    have e2 : w2.cell? ⟨w.heap.size, 2, none⟩ = some (.int .i64 5) := by rw [cell_of_row _ _ _ _ _ _ R2]; rfl
    have e3 : w2.cell? ⟨w.heap.size, 3, none⟩ = some (.int .i64 n) := by rw [cell_of_row _ _ _ _ _ _ R2]; rfl
    have e4 : w2.cell? ⟨w.heap.size, 4, none⟩ = some (.int .i64 mm) := by rw [cell_of_row _ _ _ _ _ _ R2]; rfl
    have i0 := rSizeL (HT.out.1.r false)
    have cx : w2.cell? ⟨X, 2, none⟩ = some (.pointer (some ⟨(T false).y, 0, none⟩)) := HT.out.1.cx false
    have Z2 : Tb w2 := Z.below HT.out.2.2.1 hX4
    have lb := hN false
    have hc2 : Ct { S with kp := kpt } m := ⟨hc.a, hc.e, hc.o, hc.tx⟩
    have fin : Hid (∀ w', (∃ ρ' S', Tw w' X ρ' S' T ∧ Ct S' (m + 2) ∧ S'.kp = kpt ∧ Below X w2 w') → PlP w X m N T w') := fun w' ⟨ρ', S', q1, q2, _, q4⟩ => PlP.of h q1 q2 (HT.out.2.2.1.trans q4) hN
    have i1 := whashes_any HT.out.1 hc2 hm false n mm hm1.1 hm1.2
    unfold ptr at i1
    rw [show kN false = 0 from rfl] at i1

    have HN := hid hN
    generalize (T false).L.length = sz at *
    generalize (T false).y = yy at *
    have hkd : ∀ j : Int, True := fun _ => trivial
    clear R2 hc2 Z2 Z hkd h hN hc _u
    go_enter Tryd.func30, Tryd.ntmps30
    go_wp2_with (first
      | (go_at_call 49; refine i0.mono ?_; rintro r w3 ⟨rfl, hw3⟩; have hw3 := hw3.symm; subst hw3)
      | (go_at_call 51; refine i1.mono ?_; rintro r w4 ⟨rfl, hw4⟩))
    go_ret
    exact ⟨rfl, fin.out _ hw4⟩
  · obtain ⟨w1, w2, hw1, hw2, y1, y7, f7, HT⟩ := play_start h true kpt 5 n mm s
    have R2 := HT.out.2.1
    unfold OpC at R2
    have e0 : w2.cell? ⟨w.heap.size, 0, none⟩ = some (.bool true) := by rw [cell_of_row _ _ _ _ _ _ R2]; rfl
    have e2 : w2.cell? ⟨w.heap.size, 2, none⟩ = some (.int .i64 5) := by rw [cell_of_row _ _ _ _ _ _ R2]; rfl
    have e3 : w2.cell? ⟨w.heap.size, 3, none⟩ = some (.int .i64 n) := by rw [cell_of_row _ _ _ _ _ _ R2]; rfl
    have e4 : w2.cell? ⟨w.heap.size, 4, none⟩ = some (.int .i64 mm) := by rw [cell_of_row _ _ _ _ _ _ R2]; rfl
    have i0 := rSizeL (HT.out.1.r true)
    have cx : w2.cell? ⟨X, 3, none⟩ = some (.pointer (some ⟨(T true).y, 0, none⟩)) := HT.out.1.cx true
    have Z2 : Tb w2 := Z.below HT.out.2.2.1 hX4
    have lb := hN true
    have hc2 : Ct { S with kp := kpt } m := ⟨hc.a, hc.e, hc.o, hc.tx⟩
    have fin : Hid (∀ w', (∃ ρ' S', Tw w' X ρ' S' T ∧ Ct S' (m + 2) ∧ S'.kp = kpt ∧ Below X w2 w') → PlP w X m N T w') := fun w' ⟨ρ', S', q1, q2, _, q4⟩ => PlP.of h q1 q2 (HT.out.2.2.1.trans q4) hN
    have i1 := whashes_any HT.out.1 hc2 hm true n mm hm1.1 hm1.2
    unfold ptr at i1
    rw [show kN true = 1 from rfl] at i1

    have HN := hid hN
    generalize (T true).L.length = sz at *
    generalize (T true).y = yy at *
    have hkd : ∀ j : Int, True := fun _ => trivial
    clear R2 hc2 Z2 Z hkd h hN hc _u
    go_enter Tryd.func30, Tryd.ntmps30
    go_wp2_with (first
      | (go_at_call 49; refine i0.mono ?_; rintro r w3 ⟨rfl, hw3⟩; have hw3 := hw3.symm; subst hw3)
      | (go_at_call 51; refine i1.mono ?_; rintro r w4 ⟨rfl, hw4⟩))
    go_ret
    exact ⟨rfl, fin.out _ hw4⟩
end Go.Proofs.YtfddkmkibfmmgaaDoor
