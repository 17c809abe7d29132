import Derived.Test.YtkbngmhhlpdpnaaDoorI11
namespace Go.Proofs.YtkbngmhhlpdpnaaDoor
open Go.RowKit
set_option maxRecDepth 100000 in
set_option maxHeartbeats 400000 in
theorem known4_any (w : World) (T : Tabs w) :
    Calls Tryd.prog 23 #[] w fun e w' => e = .returned (.bool true) ∧ Below w.heap.size w w' := by
  obtain ⟨l, p, N1, N2, hl, hp, ll, lp, hN1, hN2, ne1, ne2⟩ := knowns
  have HT := hid T
  have hT := T.lt
  have B0 := hid (Below.refl w.heap.size w)
  have T0 := HT
  clear T
  go_enter Tryd.func23, Tryd.ntmps23
  go_wp2_with (go_at_call 28; fail)
  refine (lhash_any ⟨#[108]⟩ l hl szL _).mono ?_
  rintro e w1 ⟨rfl, hw1⟩
  have B1 := hid (B0.out.trans (hw1.mono B0.out.size))
  have T1 := hid (HT.out.below B1.out hT)
  clear hw1 B0 T0
  go_wp2_with (go_at_call 28; fail)
  refine (lhash_any ⟨#[112]⟩ p hp szP _).mono ?_
  rintro e w2 ⟨rfl, hw2⟩
  have B2 := hid (B1.out.trans (hw2.mono B1.out.size))
  have T2 := hid (HT.out.below B2.out hT)
  clear hw2 B1 T1
  rw [svS4 p]
  go_wp2_with (go_at_call 25; fail)
  refine (kPL50 _).mono ?_
  rintro e w3 ⟨rfl, hw3⟩
  have B3 := hid (B2.out.trans (hw3.mono B2.out.size))
  have T3 := hid (HT.out.below B3.out hT)
  clear hw3 B2 T2
  go_wp2_with (go_at_call 25; fail)
  refine (kPL00 _).mono ?_
  rintro e w4 ⟨rfl, hw4⟩
  have B4 := hid (B3.out.trans (hw4.mono B3.out.size))
  have T4 := hid (HT.out.below B4.out hT)
  clear hw4 B3 T3
  go_wp2_with (go_at_call 31; fail)
  refine (kQL35 _).mono ?_
  rintro e w5 ⟨rfl, hw5⟩
  have B5 := hid (B4.out.trans (hw5.mono B4.out.size))
  have T5 := hid (HT.out.below B5.out hT)
  clear hw5 B4 T4
  have A5b := hid (at1 w5 p)
  have B5b := hid (B5.out.alloc B5.out.size (.cells #[sv p] 9))
  have T5b := hid (HT.out.below B5b.out hT)
  rw [svS4 p] at A5b B5b T5b
  clear B5 T5
  go_wp2_with (go_at_call 27; fail)
  refine (kRO ll lp hN1 _ _ A5b.out T5b.out).mono ?_
  rintro e w6 ⟨rfl, hw6⟩
  have B6 := hid (B5b.out.trans (hw6.mono B5b.out.size))
  have T6 := hid (HT.out.below B6.out hT)
  clear hw6 B5b T5b
  go_wp2_with (go_at_call 27; fail)
  refine (kRO0 ll _ T6.out).mono ?_
  rintro e w7 ⟨rfl, hw7⟩
  have B7 := hid (B6.out.trans (hw7.mono B6.out.size))
  have T7 := hid (HT.out.below B7.out hT)
  clear hw7 B6 T6
  have A7b := hid (at1 w7 p)
  have B7b := hid (B7.out.alloc B7.out.size (.cells #[sv p] 9))
  have T7b := hid (HT.out.below B7b.out hT)
  rw [svS4 p] at A7b B7b T7b
  clear B7 T7
  go_wp2_with (go_at_call 34; fail)
  refine (kRS ll lp hN2 _ _ A7b.out T7b.out).mono ?_
  rintro e w8 ⟨rfl, hw8⟩
  have B8 := hid (B7b.out.trans (hw8.mono B7b.out.size))
  have T8 := hid (HT.out.below B8.out hT)
  clear hw8 B7b T7b
  rw [svS4 N1]
  go_wp2_with (go_at_call 53; fail)
  refine (l4node_any hN1 _).mono ?_
  rintro e w9 ⟨rfl, hw9⟩
  have B9 := hid (B8.out.trans (hw9.mono B8.out.size))
  have T9 := hid (HT.out.below B9.out hT)
  clear hw9 B8 T8
  rw [svS4 N1, svS4 l, svS4 N2]
  go_wp2_with (go_at_call 53; fail)
  refine (l4node_any hN2 _).mono ?_
  rintro e w10 ⟨rfl, hw10⟩
  have B10 := hid (B9.out.trans (hw10.mono B9.out.size))
  have T10 := hid (HT.out.below B10.out hT)
  clear hw10 B9 T9
  rw [svS4 N2]
  have A10b := hid (at1 w10 p)
  have B10b := hid (B10.out.alloc B10.out.size (.cells #[sv p] 9))
  have T10b := hid (HT.out.below B10b.out hT)
  rw [svS4 p] at A10b B10b T10b
  clear B10 T10
  go_wp2_with (go_at_call 29; fail)
  refine (kIN ll lp hN1 ne1 _ _ A10b.out T10b.out).mono ?_
  rintro e w11 ⟨rfl, hw11⟩
  have B11 := hid (B10b.out.trans (hw11.mono B10b.out.size))
  have T11 := hid (HT.out.below B11.out hT)
  clear hw11 B10b T10b
  have A11b := hid (at1 w11 p)
  have B11b := hid (B11.out.alloc B11.out.size (.cells #[sv p] 9))
  have T11b := hid (HT.out.below B11b.out hT)
  rw [svS4 p] at A11b B11b T11b
  clear B11 T11
  go_wp2_with (go_at_call 35; fail)
  refine (kCN ll lp hN2 ne2 _ _ A11b.out T11b.out).mono ?_
  rintro e w12 ⟨rfl, hw12⟩
  have B12 := hid (B11b.out.trans (hw12.mono B11b.out.size))
  have T12 := hid (HT.out.below B12.out hT)
  clear hw12 B11b T11b
  go_wp2
  go_ret
  exact ⟨rfl, B12.out⟩
end Go.Proofs.YtkbngmhhlpdpnaaDoor
