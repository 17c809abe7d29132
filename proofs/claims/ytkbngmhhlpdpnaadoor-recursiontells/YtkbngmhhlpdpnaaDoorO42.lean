import Derived.Test.YtkbngmhhlpdpnaaDoorO41
namespace Go.Proofs.YtkbngmhhlpdpnaaDoor
open Go.RowKit
theorem manyOut_ok {l : List (List UInt8)} {cs : List Int} (h : wrg l = 0) (hok : OkI l.length cs) : manyOut l cs = (Tree.many (toN cs) 0 l, 0) := by rw [manyOut, if_pos h, if_pos hok]
theorem manyOut_no {l : List (List UInt8)} {cs : List Int} (h : wrg l = 0) (hok : ¬ OkI l.length cs) : manyOut l cs = ([], 30) := by rw [manyOut, if_pos h, if_neg hok]
set_option maxRecDepth 100000 in
set_option maxHeartbeats 2000000 in
theorem rMany_any (l : List (List UInt8)) (cs : List Int) (a ai : Option Addr) (cap capi : Nat) (w : World) (hl : l.length ≤ cap) (hc : cap ≤ 9223372036854775807) (hA : At w a l) (hAi : AtI w ai cs) :
    Calls Tryd.prog 16 #[.slice a l.length cap, .slice ai cs.length capi] w (Out2 w (manyOut l cs)) := by
  have h1 := wrong_any l a cap w (by omega) hA
  by_cases h : wrg l = 0
  · have h4 := wrg_le h
    rw [h] at h1
    by_cases h0 : cs.length = 0
    · have ho := hid (show manyOut l cs = ([], 30) from manyOut_no h (fun h => by have := h.pos; omega))
      rw [h0]
      generalize l.length = n at *
      clear h hA hAi
      go_enter Tryd.func16, Tryd.ntmps16
      go_wp2_with (go_at_call 44; refine h1.mono ?_; rintro e w1 ⟨rfl, rfl⟩)
      go_ret2
      exact ⟨_, by rw [ho.out]; rfl, by rw [ho.out]; exact Own.nil _ _, Below.refl _ _⟩
    · by_cases h256 : 256 < cs.length
      · have ho := hid (show manyOut l cs = ([], 30) from manyOut_no h (fun h => by have := h.few; omega))
        have z0 : ((cs.length : Int) == 0) = false := by rw [beq_eq_false_iff_ne]; omega
        have z1 : (256 : Int) < (cs.length : Int) := by omega
        generalize l.length = n at *
        generalize cs.length = m at *
        clear h hA hAi
        go_enter Tryd.func16, Tryd.ntmps16
        go_wp2_with (go_at_call 44; refine h1.mono ?_; rintro e w1 ⟨rfl, rfl⟩)
        go_ret2
        exact ⟨_, by rw [ho.out]; rfl, by rw [ho.out]; exact Own.nil _ _, Below.refl _ _⟩
      · have z0 : ((cs.length : Int) == 0) = false := by rw [beq_eq_false_iff_ne]; omega
        have z1 : ¬ (256 : Int) < (cs.length : Int) := by omega
        have HA := hid hA
        have HI := hid hAi
        obtain ⟨x, rfl⟩ := hAi.pos (by omega)
        have cM := fun (hok : OkI l.length cs) w' (g : At w' a l) (g2 : AtI w' (some x) cs) => rmany_any (toN cs) (by rw [toN_len]; omega) (fun i hi => by have := hok.lt i hi; omega) (some x) capi _ l 0 a cap w' (Nat.le_refl _) (by omega) (by have := hok.leaf 0 _ (List.getElem?_eq_getElem hok.pos); omega) (by omega) hl hc g (by rw [hok.ix]; exact g2)
        have hmo2 := hid (fun (hok : OkI l.length cs) => show manyOut l cs = (Tree.many (Tree.fi (toN cs) 0 l.length) 0 l, 0) by rw [manyOut_ok h hok, Tree.fi_all (toN cs) l.length hok.lt])
        have hmo3 := hid (fun (hok : ¬ OkI l.length cs) => show manyOut l cs = ([], 30) by rw [manyOut_no h hok])
        obtain ⟨n, hn⟩ : ∃ n, l.length = n := ⟨_, rfl⟩
        obtain ⟨m, hm⟩ : ∃ m, cs.length = m := ⟨_, rfl⟩
        rw [toN_len] at cM
        rw [hn] at h1 cM hmo2 hmo3
        rw [hm] at z0 z1 cM
        rw [hn, hm]
        clear h hA hAi
        go_enter Tryd.func16, Tryd.ntmps16
        go_wp2_with (go_at_call 44; refine h1.mono ?_; rintro e w1 ⟨rfl, rfl⟩)
        rename World => w1
        go_loopw [7] (fun i w' => ∃ k : Nat, k ≤ m ∧ i = .int .i64 (k : Int) ∧ Hid (∀ (j : Nat) (x : Int), j < k → cs[j]? = some x → 0 ≤ x ∧ x < n) ∧ Hid (∀ (j : Nat) (x y : Int), j + 1 < k → cs[j]? = some x → cs[j + 1]? = some y → x < y) ∧ Hid (Below w1.heap.size w1 w' ∧ w'.heap = w1.heap)) (fun i _ => m - (intOf i).toNat)
        case atStart => exact ⟨0, by omega, rfl, fun j x hj => by omega, fun j x y hj => by omega, hid ⟨Below.refl _ _, rfl⟩⟩
        case round =>
          obtain ⟨k, hk, rfl, hL, hR, hW⟩ := hrel
          by_cases hkm : k < m
          · have b0 : (k : Int) < (m : Int) := by omega
            have hI' := HI.out.heap hW.out.2
            have hcell := hI'.cell k (by omega)
            have hi : cs[k]? = some cs[k] := List.getElem?_eq_getElem (by omega)
            obtain ⟨i, hie⟩ : ∃ i, cs[k] = i := ⟨_, rfl⟩
            rw [hie] at hcell hi
            have Hi := hid hi
            clear hi hie
            by_cases hin1 : i < 0
            · have e := hid (hmo3.out (fun h => by have := h.leaf k i Hi.out; omega))
              clear hL hR hI' cM
              go_wp2
              go_quiet (fail)
              go_wp2
              go_ret2
              exact ⟨_, by rw [e.out]; rfl, by rw [e.out]; exact Own.nil _ _, below_drewN hW.out.1 _⟩
            · by_cases hin2 : (n : Int) ≤ i
              · have e := hid (hmo3.out (fun h => by have := h.leaf k i Hi.out; omega))
                clear hL hR hI' cM
                have d1 : decide (i < 0) = false := by simp; omega
                have d2 : decide ((n : Int) ≤ i) = true := by simp; omega
                go_wp2
                go_quiet (fail)
                go_wp2
                go_ret2
                exact ⟨_, by rw [e.out]; rfl, by rw [e.out]; exact Own.nil _ _, below_drewN hW.out.1 _⟩
              · have hL' : Hid (∀ (j : Nat) (x : Int), j < k + 1 → cs[j]? = some x → 0 ≤ x ∧ x < n) := fun j x hj hx => by
                  by_cases e : j = k
                  · subst e; rw [Hi.out] at hx; obtain rfl := Option.some.inj hx; omega
                  · exact hL.out j x (by omega) hx
                by_cases hk0 : k = 0
                · subst hk0
                  rw [addr_zero] at hcell
                  have b1 : ¬ (0 : Int) < ((0 : Nat) : Int) := by omega
                  have hR' : Hid (∀ (j : Nat) (x y : Int), j + 1 < 0 + 1 → cs[j]? = some x → cs[j + 1]? = some y → x < y) := fun j x y hj => by omega
                  clear hL hR hI' cM
                  have d1 : decide (i < 0) = false := by simp; omega
                  have d2 : decide ((n : Int) ≤ i) = false := by simp; omega
                  go_wp2
                  go_quiet (fail)
                  go_wp2
                  exact ⟨⟨0 + 1, by omega, by go_num, hL', hR', hid ⟨below_drewN hW.out.1 _, hW.out.2⟩⟩, by simp [intOf]; omega⟩
                · have b1 : (0 : Int) < (k : Int) := by omega
                  have b3 : (0 : Int) ≤ (k : Int) - 1 := by omega
                  have b4 : (k : Int) - 1 < (m : Int) := by omega
                  have b5 : ((k : Int) - 1).toNat = k - 1 := by omega
                  have hcell2 := hI'.cell (k - 1) (by omega)
                  have hp : cs[k - 1]? = some cs[k - 1] := List.getElem?_eq_getElem (by omega)
                  obtain ⟨p, hpe⟩ : ∃ p, cs[k - 1] = p := ⟨_, rfl⟩
                  rw [hpe] at hcell2 hp
                  have Hp := hid hp
                  clear hp hpe
                  by_cases hpi : p < i
                  · have b6 : ¬ i ≤ p := by omega
                    have hR' : Hid (∀ (j : Nat) (x y : Int), j + 1 < k + 1 → cs[j]? = some x → cs[j + 1]? = some y → x < y) := fun j x y hj hx hy => by
                      by_cases e : j + 1 = k
                      · have ej : j = k - 1 := by omega
                        subst ej
                        rw [Hp.out] at hx
                        rw [e, Hi.out] at hy
                        obtain rfl := Option.some.inj hx
                        obtain rfl := Option.some.inj hy
                        exact hpi
                      · exact hR.out j x y (by omega) hx hy
                    clear hL hR hI' cM
                    have d1 : decide (i < 0) = false := by simp; omega
                    have d2 : decide ((n : Int) ≤ i) = false := by simp; omega
                    have d3 : decide ((0 : Int) < (k : Int)) = true := by simp; omega
                    have d4 : decide (0 < k) = true := by simp; omega
                    have d5 : 0 < k := by omega
                    have d6 : decide (i ≤ p) = false := by simp; omega
                    go_wp2
                    go_quiet (fail)
                    go_wp2
                    exact ⟨⟨k + 1, by omega, by go_num, hL', hR', hid ⟨below_drewN hW.out.1 _, hW.out.2⟩⟩, by simp [intOf]; omega⟩
                  · have b6 : i ≤ p := by omega
                    have e := hid (hmo3.out (fun h => hpi (h.rise (k - 1) p i Hp.out (by rw [show k - 1 + 1 = k from by omega]; exact Hi.out))))
                    clear hL hR hI' cM
                    have d1 : decide (i < 0) = false := by simp; omega
                    have d2 : decide ((n : Int) ≤ i) = false := by simp; omega
                    have d3 : decide ((0 : Int) < (k : Int)) = true := by simp; omega
                    have d4 : decide (0 < k) = true := by simp; omega
                    have d5 : 0 < k := by omega
                    have d6 : decide (i ≤ p) = true := by simp; omega
                    go_wp2
                    go_quiet (fail)
                    go_wp2
                    go_ret2
                    exact ⟨_, by rw [e.out]; rfl, by rw [e.out]; exact Own.nil _ _, below_drewN hW.out.1 _⟩
          · obtain rfl : k = m := by omega
            have b0 : ¬ (k : Int) < (k : Int) := by omega
            have hok : OkI n cs := ⟨by omega, by omega, fun j x hx => hL.out j x (by have := (List.getElem?_eq_some_iff.1 hx).1; omega) hx, fun j x y hx hy => hR.out j x y (by have := (List.getElem?_eq_some_iff.1 hy).1; omega) hx hy⟩
            have e := hid (hmo2.out hok)
            have c1 := cM hok wr (HA.out.heap hW.out.2) (HI.out.heap hW.out.2)
            rw [show ((0 : Nat) : Int) = 0 from rfl] at c1
            clear hL hR cM hok hmo2 hmo3
            go_wp2_with (go_at_call 50; refine c1.mono ?_; rintro e w2 ⟨v2, rfl, hO2, hw2⟩)
            go_ret2
            exact ⟨_, by rw [e.out]; rfl, by rw [e.out]; exact hO2.mono hW.out.1.size, hW.out.1.trans (hw2.mono hW.out.1.size)⟩
  · have ho := hid (show manyOut l cs = ([], wrg l) by rw [manyOut, if_neg h])
    generalize wrg l = z at *
    generalize l.length = n at *
    generalize cs.length = ni at *
    have b0 : (z != 0) = true := by simpa using h
    clear hA hAi
    go_enter Tryd.func16, Tryd.ntmps16
    go_wp2_with (go_at_call 44; refine h1.mono ?_; rintro e w1 ⟨rfl, rfl⟩)
    go_ret2
    exact ⟨_, by rw [ho.out]; rfl, by rw [ho.out]; exact Own.nil _ _, Below.refl _ _⟩
end Go.Proofs.YtkbngmhhlpdpnaaDoor
