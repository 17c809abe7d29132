import Derived.Test.YtkbngmhhlpdpnaaDoorO25
namespace Go.Proofs.YtkbngmhhlpdpnaaDoor
open Go.RowKit
open Classical in
/-- T4 -/
noncomputable def manyOut (l : List (List UInt8)) (cs : List Int) : List (List UInt8) × Int := if wrg l = 0 then (if OkI l.length cs then (Tree.many (toN cs) 0 l, 0) else ([], 30)) else ([], wrg l)
set_option maxRecDepth 100000 in
set_option maxHeartbeats 400000 in
theorem Many_any (l : List (List UInt8)) (cs : List Int) (a ai : Option Addr) (cap capi : Nat) (w : World) (hl : l.length ≤ cap) (hc : cap ≤ 9223372036854775807) (hA : At w a l) (T : Tabs w) (hil : cs.length ≤ capi) (hic : capi ≤ 9223372036854775807) (hAi : AtI w ai cs) :
    Calls Tryd.prog 15 #[.slice a l.length cap, .slice ai cs.length capi] w (Out2 w (manyOut l cs)) := by
  have h1 := check_any l a cap w (by omega) hA
  have h3 := areLeaves_any l.length cs a ai cap capi w (by omega) hAi
  by_cases h : wrg l = 0
  · have h4 := wrg_le h
    rw [h] at h1
    by_cases hm : OkI l.length cs
    · have ho : manyOut l cs = (Tree.many (toN cs) 0 l, 0) := by rw [manyOut, if_pos h, if_pos hm]
      rw [ho]
      have hlp : 1 ≤ l.length := by
        have := (hm.leaf 0 _ (List.getElem?_eq_getElem hm.pos))
        omega
      have h2 := many_any l (toN cs) ai a capi cap w (by omega) hlp hl hc hA T (by rw [toN_len]; exact hil) hic (by rw [hm.ix]; exact hAi) hm.sorted
      rw [toN_len] at h2
      generalize Tree.many (toN cs) 0 l = L at *
      have Hm := hid hm
      generalize l.length = n at *
      generalize cs.length = ni at *
      clear h hA T hm ho hAi
      go_enter Tryd.func15, Tryd.ntmps15
      go_wp2_with (first
        | (go_at_call 41; refine h1.mono ?_; rintro e w1 ⟨rfl, rfl⟩)
        | (go_at_call 48; refine h3.mono ?_; rintro e w1 ⟨⟨b, rfl, hb⟩, rfl⟩; obtain rfl := hb.2 Hm.out)
        | (go_at_call 49; refine h2.mono ?_; rintro e w2 ⟨v2, rfl, hO2, hw2⟩))
      go_ret2
      exact ⟨_, rfl, hO2, hw2⟩
    · have ho : manyOut l cs = ([], 30) := by rw [manyOut, if_pos h, if_neg hm]
      rw [ho]
      have Hm := hid hm
      generalize l.length = n at *
      generalize cs.length = ni at *
      clear h hA T hm ho hAi
      go_enter Tryd.func15, Tryd.ntmps15
      go_wp2_with (first
        | (go_at_call 41; refine h1.mono ?_; rintro e w1 ⟨rfl, rfl⟩)
        | (go_at_call 48; refine h3.mono ?_; rintro e w1 ⟨⟨b, rfl, hb⟩, rfl⟩; obtain rfl : b = false := Bool.eq_false_iff.2 (fun hbt => Hm.out (hb.1 hbt))))
      go_ret2
      exact ⟨_, rfl, Own.nil _ _, Below.refl _ _⟩
  · have ho : manyOut l cs = ([], wrg l) := by rw [manyOut, if_neg h]
    rw [ho]
    generalize wrg l = z at *
    generalize l.length = n at *
    generalize cs.length = ni at *
    have b0 : (z != 0) = true := by simpa using h
    clear hA T ho hAi h3
    go_enter Tryd.func15, Tryd.ntmps15
    go_wp2_with (go_at_call 41; refine h1.mono ?_; rintro e w1 ⟨rfl, rfl⟩)
    go_ret2
    exact ⟨_, rfl, Own.nil _ _, Below.refl _ _⟩
theorem Many_hs {l : List (List UInt8)} (h : Tree.Hs l) (hl : l.length ≤ 4096) (cs : List Int) (hok : OkI l.length cs) (a ai : Option Addr) (cap capi : Nat) (w : World) (hlc : l.length ≤ cap) (hc : cap ≤ 9223372036854775807) (hA : At w a l) (T : Tabs w) (hil : cs.length ≤ capi) (hic : capi ≤ 9223372036854775807) (hAi : AtI w ai cs) :
    Calls Tryd.prog 15 #[.slice a l.length cap, .slice ai cs.length capi] w (Out2 w (Tree.many (toN cs) 0 l, 0)) := by
  have hw : wrg l = 0 := by
    rw [wrg, if_neg (by omega), if_pos]
    rw [List.all_eq_true]
    intro x hx
    simpa using h x hx
  have := Many_any l cs a ai cap capi w hlc hc hA T hil hic hAi
  rwa [manyOut, if_pos hw, if_pos hok] at this
end Go.Proofs.YtkbngmhhlpdpnaaDoor
