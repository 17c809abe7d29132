import Derived.Test.YtkbngmhhlpdpnaaDoorI16
import Derived.Test.YtkbngmhhlpdpnaaDoorI22
import Derived.Test.YtkbngmhhlpdpnaaDoorI23
namespace Go.Proofs.YtkbngmhhlpdpnaaDoor
open Go.RowKit
/-- copy(own, l), over what lay there -/
theorem copy_textsG (w : World) (H : Nat) (a : Option Addr) (cap' : Nat) (ps old rest : List (List UInt8)) (ho : old.length = ps.length) (hs : At w a ps) (hR : Row w H (old ++ rest)) (cap : Nat) :
    ∃ w', (Builtin.copy_ #[22, 22] 3 #[.slice (some ⟨H, 0, none⟩) ps.length cap, .slice a ps.length cap']).run Tryd.prog w = .ok (goInt ps.length) w' ∧ Row w' H (ps ++ rest) ∧ But H w w' := by
  by_cases h0 : ps.length = 0
  · obtain rfl : ps = [] := List.length_eq_zero_iff.1 h0
    obtain rfl : old = [] := List.length_eq_zero_iff.1 ho
    exact ⟨w, run_copy_none (P := Tryd.prog) w _ _ _ 9 _ _ _ _ _ _ Tryd.underlying22 infoS1 (by simp), by simpa using hR, But.refl _ _⟩
  · obtain ⟨x, rfl, hx, _⟩ := hs 0 _ (List.getElem?_eq_getElem (by omega))
    have h := run_copy_row (P := Tryd.prog) w 22 22 3 9 H 0 ps.length cap x ps.length cap' _ 9 (svs ps) Tryd.underlying22 infoS1 hR
      (by rw [svs_length]; exact (Nat.min_eq_left (Nat.le_refl _)).symm) (fun j u hu => by
        simp only [svs, List.getElem?_map, Option.map_eq_some_iff] at hu
        obtain ⟨p, hp, rfl⟩ := hu
        obtain ⟨y, hy, _, hc⟩ := hs j p hp
        cases hy
        exact hc) (by simp [svs]; omega) (fun u hu => svs_one' hu)
    refine ⟨_, h.trans (by rw [svs_length]), ?_, (But.refl _ _).setRow _⟩
    unfold Row
    rw [setRow_heap _ _ _ _ _ _ hR]
    refine congrArg (fun A => some (Obj.cells A 9 (0, 0))) ?_
    simp [svs, ← ho]
theorem rRootOf_at {n m : Int} {leaf : List UInt8} {path : List (List UInt8)} {r : List UInt8} {z : Int} (h : Hid (rootOf4 n m leaf path = (r, z))) (a : Option Addr) (k cap : Nat) (w : World) (hk : path.length = k) (hlc : k ≤ cap) (hc : cap ≤ 9223372036854775807) (hA : At w a path) :
    Calls Tryd.prog 69 #[.int .i64 n, .int .i64 m, sv leaf, .slice a k cap] w fun e w' => e = .returned (.tuple #[sv r, .int .i64 z]) ∧ Below w.heap.size w w' := by
  have := rRootOf_any n m leaf path a cap w (by omega) hc hA
  rwa [h.out, hk] at this
theorem rInclusion_at {n m : Int} {leaf root : List UInt8} {path : List (List UInt8)} {z : Int} (h : Hid (incOf4 n m leaf path root = z)) (a : Option Addr) (k cap : Nat) (w : World) (hk : path.length = k) (hlc : k ≤ cap) (hc : cap ≤ 9223372036854775807) (hA : At w a path) :
    Calls Tryd.prog 70 #[.int .i64 n, .int .i64 m, sv leaf, .slice a k cap, sv root] w fun e w' => e = .returned (.int .i64 z) ∧ Below w.heap.size w w' := by
  have := rInclusion_any n m leaf path root a cap w (by omega) hc hA
  rwa [h.out, hk] at this
theorem Own.at5 {w : World} {base : Nat} {v : Value} {L : List (List UInt8)} (h : Own w base v (svs L)) : ∃ a cap, v = .slice a L.length cap ∧ At w a L ∧ L.length ≤ cap ∧ cap ≤ 9223372036854775807 ∧ ∀ y, a = some y → base ≤ y.block := by
  rcases h with ⟨rfl, h⟩ | ⟨g, cap, rfl, h1, h2, h3, h4, h5, h6⟩
  · obtain rfl : L = [] := by simpa [svs] using h
    exact ⟨none, 0, rfl, At.nil _ _, by simp, by omega, fun y hy => by cases hy⟩
  · rw [svs_length] at h2
    refine ⟨some ⟨g, 0, none⟩, cap, by rw [svs_length], fun j p hp => ⟨_, rfl, h6, ?_⟩, h2, h3, fun y hy => ?_⟩
    · rw [Addr.add_mid]
      exact h4 j (sv p) (by simp [svs, hp])
    · obtain rfl := Option.some.inj hy
      exact h1
theorem At.but {w w' : World} {a : Option Addr} {l : List (List UInt8)} {b : Nat} (h : At w a l) (hb : But b w w') (hs : w.heap.size ≤ w'.heap.size) (hne : ∀ x, a = some x → x.block ≠ b) : At w' a l := fun j p hp => by
  obtain ⟨x, rfl, hx, hc⟩ := h j p hp
  refine ⟨x, rfl, Nat.lt_of_lt_of_le hx hs, ?_⟩
  rw [← hc]
  exact World.cell?_of_block (w := w) (by rw [addr_block]; exact hb.block _ hx (hne x rfl))
set_option maxRecDepth 100000 in
set_option maxHeartbeats 600000 in
theorem path4_any (n m : Int) (leaf : List UInt8) (l : List (List UInt8)) (root : List UInt8) (a : Option Addr) (L cap : Nat) (w : World) (hL : l.length = L) (hl : L ≤ 8796093021952) (hlc : L ≤ cap) (hc : cap ≤ 9223372036854775807) (hq : ∀ q ∈ l, q.length ≤ 140737488351232) (hA : At w a l) (T : Tabs w) :
    Calls Tryd.prog 36 #[.int .i64 n, .int .i64 m, sv leaf, .slice a L cap, sv root] w fun e w' => e = .returned (.bool true) ∧ Below w.heap.size w w' := by
  have HT := hid T
  have hT := T.lt
  have B0 := hid (Below.refl w.heap.size w)
  have T0 := HT
  have A0 := hid hA
  have HQ := hid hq
  have HL := hid hL
  obtain ⟨n8, hn8⟩ : ∃ k, Hid (L + 8 = k) := ⟨_, rfl⟩
  have c1 := lent4_any l a cap w (by omega) hA
  rw [hL, hn8.out] at c1
  have cK := fun w' (hR : Row w' w.heap.size (l ++ bhds 8)) (hA' : At w' a l) => kept4_yes l w.heap.size a cap w' (by omega) hR hA'
  rw [hL, hn8.out] at cK
  have cT := fun w' (hA' : At w' a l) => turned4_any l a cap w' (by omega) HQ.out hA'
  rw [hL] at cT
  obtain ⟨H, hH⟩ : ∃ H, Hid (w.heap.size = H) := ⟨_, rfl⟩
  have hHle := Nat.le_of_eq hH.out
  rw [hH.out] at c1 cK
  obtain ⟨rA, zA, hr⟩ : ∃ r z, Hid (rootOf4 n m leaf l = (r, z)) := ⟨_, _, rfl⟩
  obtain ⟨zg, hg⟩ : ∃ z, Hid (incOf4 n m leaf l root = z) := ⟨_, rfl⟩
  obtain ⟨zi, hi⟩ : ∃ z, Hid (incOf4 n m leaf l rA = z) := ⟨_, rfl⟩
  have g1 : (L : Int) ≤ (n8 : Int) := by have := hn8.out; omega
  have g2 : L ≤ n8 := by have := hn8.out; omega
  have g3 : n8 ≤ 9223372036854775807 := by have := hn8.out; omega
  clear T hA hq hL
  go_enter Tryd.func36, Tryd.ntmps36
  go_wp2_with (go_at_call 68; fail)
  refine c1.mono ?_
  rintro e w1 ⟨rfl, hR1, hw1⟩
  rw [← hH.out] at hw1
  have B1 := hid (B0.out.trans (hw1.mono B0.out.size))
  have T1 := hid (HT.out.below B1.out hT)
  have A1 := hid (A0.out.below hw1 (Nat.le_refl _))
  have R1 := hid hR1
  clear hw1 B0 T0 A0 hR1 c1
  have X1 : Hid (At w1 (some ⟨H, 0, none⟩) l) := by
    have := R1.out.at.take l.length
    rwa [List.take_left] at this
  go_wp2_with (go_at_call 27; fail)
  refine (RootOf_at hr (some ⟨H, 0, none⟩) L n8 _ HL.out (by omega) X1.out T1.out).mono ?_
  rintro e w2 ⟨rfl, hw2⟩
  have B2 := hid (B1.out.trans (hw2.mono B1.out.size))
  have T2 := hid (HT.out.below B2.out hT)
  have A2 := hid (A1.out.below hw2 (Nat.le_refl _))
  clear A1
  have R2 := hid (R1.out.below hw2 R1.out.lt)
  clear R1
  clear hw2 B1 T1
  go_wp2_with (go_at_call 69; fail)
  refine (rRootOf_at hr a L cap _ HL.out hlc hc A2.out).mono ?_
  rintro e w3 ⟨rfl, hw3⟩
  have B3 := hid (B2.out.trans (hw3.mono B2.out.size))
  have T3 := hid (HT.out.below B3.out hT)
  have A3 := hid (A2.out.below hw3 (Nat.le_refl _))
  clear A2
  have R3 := hid (R2.out.below hw3 R2.out.lt)
  clear R2
  clear hw3 B2 T2
  have X3 : Hid (At w3 (some ⟨H, 0, none⟩) l) := by
    have := R3.out.at.take l.length
    rwa [List.take_left] at this
  go_wp2_with (go_at_call 29; fail)
  refine (Inclusion_at hg (some ⟨H, 0, none⟩) L n8 _ HL.out (by omega) X3.out T3.out).mono ?_
  rintro e w4 ⟨rfl, hw4⟩
  have B4 := hid (B3.out.trans (hw4.mono B3.out.size))
  have T4 := hid (HT.out.below B4.out hT)
  have A4 := hid (A3.out.below hw4 (Nat.le_refl _))
  clear A3
  have R4 := hid (R3.out.below hw4 R3.out.lt)
  clear R3
  clear hw4 B3 T3
  go_wp2_with (go_at_call 70; fail)
  refine (rInclusion_at hg a L cap _ HL.out hlc hc A4.out).mono ?_
  rintro e w5 ⟨rfl, hw5⟩
  have B5 := hid (B4.out.trans (hw5.mono B4.out.size))
  have T5 := hid (HT.out.below B5.out hT)
  have A5 := hid (A4.out.below hw5 (Nat.le_refl _))
  clear A4
  have R5 := hid (R4.out.below hw5 R4.out.lt)
  clear R4
  clear hw5 B4 T4
  have X5 : Hid (At w5 (some ⟨H, 0, none⟩) l) := by
    have := R5.out.at.take l.length
    rwa [List.take_left] at this
  go_wp2_with (go_at_call 29; fail)
  refine (Inclusion_at hi (some ⟨H, 0, none⟩) L n8 _ HL.out (by omega) X5.out T5.out).mono ?_
  rintro e w6 ⟨rfl, hw6⟩
  have B6 := hid (B5.out.trans (hw6.mono B5.out.size))
  have T6 := hid (HT.out.below B6.out hT)
  have A6 := hid (A5.out.below hw6 (Nat.le_refl _))
  clear A5
  have R6 := hid (R5.out.below hw6 R5.out.lt)
  clear R5
  clear hw6 B5 T5
  go_wp2_with (go_at_call 70; fail)
  refine (rInclusion_at hi a L cap _ HL.out hlc hc A6.out).mono ?_
  rintro e w7 ⟨rfl, hw7⟩
  have B7 := hid (B6.out.trans (hw7.mono B6.out.size))
  have T7 := hid (HT.out.below B7.out hT)
  have A7 := hid (A6.out.below hw7 (Nat.le_refl _))
  clear A6
  have R7 := hid (R6.out.below hw7 R6.out.lt)
  clear R6
  clear hw7 B6 T6
  go_wp2_with (go_at_call 71; fail)
  refine (cK _ (hH.out ▸ R7.out) A7.out).mono ?_
  rintro e w8 ⟨rfl, hw8, hh8⟩
  have B8 := hid (B7.out.trans (hw8.mono B7.out.size))
  have T8 := hid (HT.out.below B8.out hT)
  have A8 := hid (A7.out.below hw8 (Nat.le_refl _))
  have R8 := hid (R7.out.below hw8 R7.out.lt)
  clear hw8 hh8 B7 T7 A7 R7 cK
  rw [show sv rA = .string ⟨rA.toArray⟩ from rfl]
  go_wp2_with (go_at_call 72; fail)
  refine (cT _ A8.out).mono ?_
  rintro e w9 ⟨v9, X, rfl, hXl, hO9, hw9⟩
  obtain ⟨xa, xc, rfl, hX, hxc, hxc2, hxg⟩ := hO9.at5
  have hxb : ∀ y, xa = some y → y.block ≠ H := by
    intro y hy
    have h1 := hxg y hy
    have h2 := R8.out.lt
    omega
  clear hxg
  rw [hXl] at hxc ⊢
  have B9 := hid (B8.out.trans (hw9.mono B8.out.size))
  have R9 := hid (R8.out.below hw9 R8.out.lt)
  obtain ⟨w10, hcp, hR10, hbut⟩ := copy_textsG w9 H xa xc X l (bhds 8) (by rw [hXl]; exact HL.out) hX R9.out n8
  rw [hXl] at hcp
  have hbelow : Below w.heap.size w9 w10 := hbut.below hHle B9.out.size
  have B10 := hid (B9.out.trans hbelow)
  have T10 := hid (HT.out.below B10.out hT)
  have A10 := hid (hX.but hbut hbelow.size hxb)
  have R10 := hid hR10
  have HXl := hid hXl
  clear hw9 hO9 hbelow hbut hX hR10 B8 T8 A8 R8 cT B9 R9 hxb
  obtain ⟨rB, zB, hrB⟩ : ∃ r z, Hid (rootOf4 n m leaf X = (r, z)) := ⟨_, _, rfl⟩
  obtain ⟨zk, hk⟩ : ∃ z, Hid (incOf4 n m leaf X rA = z) := ⟨_, rfl⟩
  have X10 : Hid (At w10 (some ⟨H, 0, none⟩) X) := by
    have := R10.out.at.take X.length
    rwa [List.take_left] at this
  go_wp2_with (go_at_call 27; fail)
  refine (RootOf_at hrB (some ⟨H, 0, none⟩) L n8 _ HXl.out (by omega) X10.out T10.out).mono ?_
  rintro e w11 ⟨rfl, hw11⟩
  have B11 := hid (B10.out.trans (hw11.mono B10.out.size))
  have T11 := hid (HT.out.below B11.out hT)
  have A11 := hid (A10.out.below hw11 (Nat.le_refl _))
  clear A10
  have R11 := hid (R10.out.below hw11 R10.out.lt)
  clear R10
  clear hw11 B10 T10
  have X11 : Hid (At w11 (some ⟨H, 0, none⟩) X) := by
    have := R11.out.at.take X.length
    rwa [List.take_left] at this
  go_wp2_with (go_at_call 29; fail)
  refine (Inclusion_at hk (some ⟨H, 0, none⟩) L n8 _ HXl.out (by omega) X11.out T11.out).mono ?_
  rintro e w12 ⟨rfl, hw12⟩
  have B12 := hid (B11.out.trans (hw12.mono B11.out.size))
  have T12 := hid (HT.out.below B12.out hT)
  have A12 := hid (A11.out.below hw12 (Nat.le_refl _))
  clear A11
  have R12 := hid (R11.out.below hw12 R11.out.lt)
  clear R11
  clear hw12 B11 T11
  go_wp2_with (go_at_call 70; fail)
  refine (rInclusion_at hk xa L xc _ HXl.out hxc hxc2 A12.out).mono ?_
  rintro e w13 ⟨rfl, hw13⟩
  have B13 := hid (B12.out.trans (hw13.mono B12.out.size))
  have T13 := hid (HT.out.below B13.out hT)
  have A13 := hid (A12.out.below hw13 (Nat.le_refl _))
  clear A12
  have R13 := hid (R12.out.below hw13 R12.out.lt)
  clear R12
  clear hw13 B12 T12
  go_wp2_with (go_at_call 69; fail)
  refine (rRootOf_at hrB xa L xc _ HXl.out hxc hxc2 A13.out).mono ?_
  rintro e w14 ⟨rfl, hw14⟩
  have B14 := hid (B13.out.trans (hw14.mono B13.out.size))
  have T14 := hid (HT.out.below B14.out hT)
  have A14 := hid (A13.out.below hw14 (Nat.le_refl _))
  clear A13
  have R14 := hid (R13.out.below hw14 R13.out.lt)
  clear R13
  clear hw14 B13 T13
  rw [show sv rB = .string ⟨rB.toArray⟩ from rfl]
  go_wp2
  go_ret
  exact ⟨rfl, B14.out⟩
end Go.Proofs.YtkbngmhhlpdpnaaDoor
