import Derived.Test.YtkbngmhhlpdpnaaDoorO24
namespace Go.Proofs.YtkbngmhhlpdpnaaDoor
open Go.RowKit
/-- T4: some, not too many, each a leaf's, rising -/
structure OkI (n : Nat) (cs : List Int) : Prop where
  pos : 0 < cs.length
  few : cs.length ≤ 256
  leaf : ∀ (j : Nat) (x : Int), cs[j]? = some x → 0 ≤ x ∧ x < n
  rise : ∀ (j : Nat) (x y : Int), cs[j]? = some x → cs[j + 1]? = some y → x < y
theorem pw_of : ∀ (is : List Nat), (∀ (j x y : Nat), is[j]? = some x → is[j + 1]? = some y → x < y) → is.Pairwise (· < ·)
  | [], _ => List.Pairwise.nil
  | [i], _ => by simp
  | i :: k :: t, h => by
    have ih := pw_of (k :: t) (fun j x y hx hy => h (j + 1) x y (by simpa using hx) (by simpa using hy))
    have hik := h 0 i k rfl rfl
    rw [List.pairwise_cons]
    refine ⟨fun y hy => ?_, ih⟩
    rcases List.mem_cons.1 hy with rfl | hy
    · exact hik
    · exact Nat.lt_trans hik ((List.pairwise_cons.1 ih).1 y hy)
def toN (cs : List Int) : List Nat := cs.map Int.toNat
theorem toN_len (cs : List Int) : (toN cs).length = cs.length := by simp [toN]
theorem OkI.ix {n : Nat} {cs : List Int} (h : OkI n cs) : ix (toN cs) = cs := by
  unfold Go.Proofs.YtkbngmhhlpdpnaaDoor.ix toN
  rw [List.map_map]
  conv => rhs; rw [← List.map_id cs]
  refine List.map_congr_left fun x hx => ?_
  obtain ⟨j, hj, rfl⟩ := List.getElem_of_mem hx
  have := (h.leaf j _ (List.getElem?_eq_getElem hj)).1
  show ((cs[j].toNat : Nat) : Int) = cs[j]
  omega
theorem OkI.sorted {n : Nat} {cs : List Int} (h : OkI n cs) : (toN cs).Pairwise (· < ·) := by
  refine pw_of _ fun j x y hx hy => ?_
  simp only [toN, List.getElem?_map, Option.map_eq_some_iff] at hx hy
  obtain ⟨a, ha, rfl⟩ := hx
  obtain ⟨b, hb, rfl⟩ := hy
  have h1 := h.rise j a b ha hb
  have h2 := (h.leaf j a ha).1
  omega
theorem OkI.lt {n : Nat} {cs : List Int} (h : OkI n cs) : ∀ i ∈ toN cs, i < n := fun i hi => by
  simp only [toN, List.mem_map] at hi
  obtain ⟨x, hx, rfl⟩ := hi
  obtain ⟨j, hj, rfl⟩ := List.getElem_of_mem hx
  have := h.leaf j _ (List.getElem?_eq_getElem hj)
  omega
set_option maxRecDepth 100000 in
set_option maxHeartbeats 400000 in
theorem many_any (l : List (List UInt8)) (is : List Nat) (ai a : Option Addr) (capi cap : Nat) (w : World) (hM : l.length ≤ 1000000) (hl1 : 1 ≤ l.length) (hl : l.length ≤ cap) (hc : cap ≤ 9223372036854775807) (hA : At w a l) (T : Tabs w)
    (hil : is.length ≤ capi) (hic : capi ≤ 9223372036854775807) (hAi : AtI w ai (ix is)) (hso : is.Pairwise (· < ·)) :
    Calls Tryd.prog 49 #[.slice a l.length cap, .slice ai is.length capi] w (Out w (Tree.many is 0 l)) := by
  have hmf : ∀ (fn : Fn) (first cap : Array Value) (w : World), (Instr.makeFunc fn first cap).run Tryd.prog w = .ok (.func fn first cap) w := fun _ _ _ _ => rfl
  have hb := (Below.refl w.heap.size w).alloc (Nat.le_refl _) (.cells #[Value.func (.func 82) #[] #[Value.pointer (some ⟨w.heap.size, 0, none⟩)]] 84)
  have hc1 := many1_any _ l is 0 ai a capi cap w.heap.size (w.alloc (.cells #[Value.func (.func 82) #[] #[Value.pointer (some ⟨w.heap.size, 0, none⟩)]] 84)) (Nat.le_refl _) hM (by omega) hl1 hl hc (hA.below hb (Nat.le_refl _)) (T.below hb T.lt) hil hic (hAi.below hb (Nat.le_refl _)) hso (by omega)
    (by rw [cell_of_row _ _ _ _ _ _ (heap_alloc_new w _)]; rfl)
  rw [show ((0 : Nat) : Int) = 0 from rfl] at hc1
  generalize Tree.many is 0 l = L at *
  generalize l.length = n at *
  generalize is.length = ni at *
  clear hA T hc hl hAi hso
  go_enter Tryd.func49, Tryd.ntmps49
  go_wp2_with (go_at_call 82; refine hc1.mono ?_; rintro e w1 ⟨v1, rfl, hO1, hw1⟩)
  go_ret
  exact ⟨_, rfl, hO1.mono hb.size, hb.trans (hw1.mono (by rw [size_alloc]; omega))⟩
/-- yes or no -/
def SaidB (P : Prop) (w : World) (e : Ending) (w' : World) : Prop := (∃ b : Bool, e = .returned (.bool b) ∧ (b = true ↔ P)) ∧ w' = w
set_option maxRecDepth 100000 in
set_option maxHeartbeats 1000000 in
theorem areLeaves_any (n : Nat) (cs : List Int) (a ai : Option Addr) (cap capi : Nat) (w : World) (hcs : cs.length ≤ 9223372036854775807) (hA : AtI w ai cs) :
    Calls Tryd.prog 48 #[.slice a n cap, .slice ai cs.length capi] w (SaidB (OkI n cs) w) := by
  have HA := hid hA
  clear hA
  by_cases h0 : cs.length = 0
  · rw [h0]
    go_enter Tryd.func48, Tryd.ntmps48
    go_wp2
    go_ret
    exact ⟨⟨_, rfl, ⟨fun h => (by cases h), fun h => by have := h.pos; omega⟩⟩, rfl⟩
  · by_cases h256 : 256 < cs.length
    · have z0 : ((cs.length : Int) == 0) = false := by rw [beq_eq_false_iff_ne]; omega
      have z1 : (256 : Int) < (cs.length : Int) := by omega
      have e := hid (show ¬ OkI n cs from fun h => by have := h.few; omega)
      generalize cs.length = m at *
      go_enter Tryd.func48, Tryd.ntmps48
      go_wp2
      go_ret
      exact ⟨⟨_, rfl, ⟨fun h => (by cases h), fun h => absurd h e.out⟩⟩, rfl⟩
    · have z0 : ((cs.length : Int) == 0) = false := by rw [beq_eq_false_iff_ne]; omega
      have z1 : ¬ (256 : Int) < (cs.length : Int) := by omega
      obtain ⟨m, hm⟩ : ∃ m, cs.length = m := ⟨_, rfl⟩
      rw [hm] at z0 z1 ⊢
      obtain ⟨x, rfl⟩ := HA.out.pos (by omega)
      go_enter Tryd.func48, Tryd.ntmps48
      go_wp2
      go_loopw [17] (fun i w' => ∃ k : Nat, k ≤ m ∧ i = .int .i64 (k : Int) ∧ Hid (∀ (j : Nat) (x : Int), j < k → cs[j]? = some x → 0 ≤ x ∧ x < n) ∧ Hid (∀ (j : Nat) (x y : Int), j + 1 < k → cs[j]? = some x → cs[j + 1]? = some y → x < y) ∧ w' = w) (fun i _ => m - (intOf i).toNat)
      case atStart => exact ⟨0, by omega, rfl, fun j x hj => by omega, fun j x y hj => by omega, rfl⟩
      case round =>
        obtain ⟨k, hk, rfl, hL, hR, rfl⟩ := hrel
        by_cases hkm : k < m
        · have b0 : (k : Int) < (m : Int) := by omega
          have hcell := HA.out.cell k (by omega)
          have hi : cs[k]? = some cs[k] := List.getElem?_eq_getElem (by omega)
          obtain ⟨i, hie⟩ : ∃ i, cs[k] = i := ⟨_, rfl⟩
          rw [hie] at hcell hi
          have Hi := hid hi
          clear hi hie
          by_cases hin : 0 ≤ i ∧ i < n
          · have hL' : Hid (∀ (j : Nat) (x : Int), j < k + 1 → cs[j]? = some x → 0 ≤ x ∧ x < n) := fun j x hj hx => by
              by_cases e : j = k
              · subst e; rw [Hi.out] at hx; obtain rfl := Option.some.inj hx; exact hin
              · exact hL.out j x (by omega) hx
            have cL := isLeaf_yes a n cap i hin
            by_cases hk0 : k = 0
            · subst hk0
              rw [addr_zero] at hcell
              have b1 : ¬ (0 : Int) < ((0 : Nat) : Int) := by omega
              have hR' : Hid (∀ (j : Nat) (x y : Int), j + 1 < 0 + 1 → cs[j]? = some x → cs[j + 1]? = some y → x < y) := fun j x y hj => by omega
              clear hL hR hin
              go_wp2_with (go_at_call 42; refine (cL _).mono ?_; rintro e w' ⟨rfl, rfl⟩)
              exact ⟨⟨0 + 1, by omega, by go_num, hL', hR', trivial⟩, by simp [intOf]; omega⟩
            · have b1 : (0 : Int) < (k : Int) := by omega
              have b2 : (k : Int) - 1 = ((k - 1 : Nat) : Int) := by omega
              have b3 : (0 : Int) ≤ (k : Int) - 1 := by omega
              have b4 : (k : Int) - 1 < (m : Int) := by omega
              have b5 : ((k : Int) - 1).toNat = k - 1 := by omega
              have hcell2 := HA.out.cell (k - 1) (by omega)
              have hp : cs[k - 1]? = some cs[k - 1] := List.getElem?_eq_getElem (by omega)
              obtain ⟨p, hpe⟩ : ∃ p, cs[k - 1] = p := ⟨_, rfl⟩
              rw [hpe] at hcell2 hp
              have Hp := hid hp
              have B2 := hid b2
              clear hp hpe b2
              by_cases hpi : p < i
              · have b6 : ¬ i ≤ p := by omega
                have hR' : Hid (∀ (j : Nat) (x y : Int), j + 1 < k + 1 → cs[j]? = some x → cs[j + 1]? = some y → x < y) := fun j x y hj hx hy => by
                  by_cases e : j + 1 = k
                  · have ej : j = k - 1 := by omega
                    subst ej
                    rw [Hp.out] at hx
                    rw [e, Hi.out] at hy
                    obtain rfl := Option.some.inj hx
                    obtain rfl := Option.some.inj hy
                    exact hpi
                  · exact hR.out j x y (by omega) hx hy
                clear hL hR hin
                go_wp2_with (go_at_call 42; refine (cL _).mono ?_; rintro e w' ⟨rfl, rfl⟩)
                exact ⟨⟨k + 1, by omega, by go_num, hL', hR', trivial⟩, by simp [intOf]; omega⟩
              · have b6 : i ≤ p := by omega
                have e := hid (show ¬ OkI n cs from fun h => hpi (h.rise (k - 1) p i Hp.out (by rw [show k - 1 + 1 = k from by omega]; exact Hi.out)))
                clear hL hR hin
                go_wp2_with (go_at_call 42; refine (cL _).mono ?_; rintro e w' ⟨rfl, rfl⟩)
                go_ret
                exact ⟨⟨_, rfl, ⟨fun h => (by cases h), fun h => absurd h e.out⟩⟩, rfl⟩
          · have cL := isLeaf_no a n cap i hin
            have e := hid (show ¬ OkI n cs from fun h => hin (h.leaf k i Hi.out))
            clear hL hR hin
            go_wp2_with (go_at_call 42; refine (cL _).mono ?_; rintro e w' ⟨rfl, rfl⟩)
            go_ret
            exact ⟨⟨_, rfl, ⟨fun h => (by cases h), fun h => absurd h e.out⟩⟩, rfl⟩
        · obtain rfl : k = m := by omega
          have b0 : ¬ (k : Int) < (k : Int) := by omega
          have e := hid (show OkI n cs from ⟨by omega, by omega, fun j x hx => hL.out j x (by have := (List.getElem?_eq_some_iff.1 hx).1; omega) hx, fun j x y hx hy => hR.out j x y (by have := (List.getElem?_eq_some_iff.1 hy).1; omega) hx hy⟩)
          clear hL hR
          go_wp2
          go_ret
          exact ⟨⟨_, rfl, ⟨fun _ => e.out, fun _ => rfl⟩⟩, rfl⟩
end Go.Proofs.YtkbngmhhlpdpnaaDoor
