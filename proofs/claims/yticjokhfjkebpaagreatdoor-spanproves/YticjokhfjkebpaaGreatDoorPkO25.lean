import Derived.Test.YticjokhfjkebpaaGreatDoorPkO15
namespace Go.Proofs.YticjokhfjkebpaaGreatDoor
open Go.RowKit
/-- T4: some, not too many, each a leaf's, rising -/
structure OkI (n : Nat) (cs : List Int) : Prop where
  pos : 0 < cs.length
  few : cs.length ≤ 256
  leaf : ∀ (j : Nat) (x : Int), cs[j]? = some x → 0 ≤ x ∧ x < n
  rise : ∀ (j : Nat) (x y : Int), cs[j]? = some x → cs[j + 1]? = some y → x < y
theorem pw_of : ∀ (is : List Nat), (∀ (j x y : Nat), is[j]? = some x → is[j + 1]? = some y → x < y) → is.Pairwise (· < ·)
  | [], _ => List.Pairwise.nil
  | [i], _ => by simp
  | i :: k :: t, h => by
    have ih := pw_of (k :: t) (fun j x y hx hy => h (j + 1) x y (by simpa using hx) (by simpa using hy))
    have hik := h 0 i k rfl rfl
    rw [List.pairwise_cons]
    refine ⟨fun y hy => ?_, ih⟩
    rcases List.mem_cons.1 hy with rfl | hy
    · exact hik
    · exact Nat.lt_trans hik ((List.pairwise_cons.1 ih).1 y hy)
def toN (cs : List Int) : List Nat := cs.map Int.toNat
theorem toN_len (cs : List Int) : (toN cs).length = cs.length := by simp [toN]
theorem OkI.ix {n : Nat} {cs : List Int} (h : OkI n cs) : ix (toN cs) = cs := by
  unfold Go.Proofs.YticjokhfjkebpaaGreatDoor.ix toN
  rw [List.map_map]
  conv => rhs; rw [← List.map_id cs]
  refine List.map_congr_left fun x hx => ?_
  obtain ⟨j, hj, rfl⟩ := List.getElem_of_mem hx
  have := (h.leaf j _ (List.getElem?_eq_getElem hj)).1
  show ((cs[j].toNat : Nat) : Int) = cs[j]
  omega
theorem OkI.sorted {n : Nat} {cs : List Int} (h : OkI n cs) : (toN cs).Pairwise (· < ·) := by
  refine pw_of _ fun j x y hx hy => ?_
  simp only [toN, List.getElem?_map, Option.map_eq_some_iff] at hx hy
  obtain ⟨a, ha, rfl⟩ := hx
  obtain ⟨b, hb, rfl⟩ := hy
  have h1 := h.rise j a b ha hb
  have h2 := (h.leaf j a ha).1
  omega
theorem OkI.lt {n : Nat} {cs : List Int} (h : OkI n cs) : ∀ i ∈ toN cs, i < n := fun i hi => by
  simp only [toN, List.mem_map] at hi
  obtain ⟨x, hx, rfl⟩ := hi
  obtain ⟨j, hj, rfl⟩ := List.getElem_of_mem hx
  have := h.leaf j _ (List.getElem?_eq_getElem hj)
  omega
set_option maxRecDepth 100000 in
set_option maxHeartbeats 400000 in
theorem many_any (l : List (List UInt8)) (is : List Nat) (ai a : Option Addr) (capi cap : Nat) (w : World) (hM : l.length ≤ 1000000) (hl1 : 1 ≤ l.length) (hl : l.length ≤ cap) (hc : cap ≤ 9223372036854775807) (hA : At w a l) (T : Tabs w)
    (hil : is.length ≤ capi) (hic : capi ≤ 9223372036854775807) (hAi : AtI w ai (ix is)) (hso : is.Pairwise (· < ·)) :
    Calls Tryz.prog 45 #[.slice a l.length cap, .slice ai is.length capi] w (Out w (Tree.many is 0 l)) := by
  have hmf : ∀ (fn : Fn) (first cap : Array Value) (w : World), (Instr.makeFunc fn first cap).run Tryz.prog w = .ok (.func fn first cap) w := fun _ _ _ _ => rfl
  have hb := (Below.refl w.heap.size w).alloc (Nat.le_refl _) (.cells #[Value.func (.func 87) #[] #[Value.pointer (some ⟨w.heap.size, 0, none⟩)]] 147)
  have hc1 := many1_any _ l is 0 ai a capi cap w.heap.size (w.alloc (.cells #[Value.func (.func 87) #[] #[Value.pointer (some ⟨w.heap.size, 0, none⟩)]] 147)) (Nat.le_refl _) hM (by omega) hl1 hl hc (hA.below hb (Nat.le_refl _)) (T.below hb T.lt) hil hic (hAi.below hb (Nat.le_refl _)) hso (by omega)
    (by rw [cell_of_row _ _ _ _ _ _ (heap_alloc_new w _)]; rfl)
  rw [show ((0 : Nat) : Int) = 0 from rfl] at hc1
  generalize Tree.many is 0 l = L at *
  generalize l.length = n at *
  generalize is.length = ni at *
  clear hA T hc hl hAi hso
  go_enter Tryz.func45, Tryz.ntmps45
  go_wp2_with (go_at_call 87; refine hc1.mono ?_; rintro e w1 ⟨v1, rfl, hO1, hw1⟩)
  go_ret
  exact ⟨_, rfl, hO1.mono hb.size, hb.trans (hw1.mono (by rw [size_alloc]; omega))⟩
/-- yes or no -/
def SaidB (P : Prop) (w : World) (e : Ending) (w' : World) : Prop := (∃ b : Bool, e = .returned (.bool b) ∧ (b = true ↔ P)) ∧ w' = w
set_option maxRecDepth 100000 in
set_option maxHeartbeats 1000000 in
theorem areLeaves_any (n : Nat) (cs : List Int) (a ai : Option Addr) (cap capi : Nat) (w : World) (hcs : cs.length ≤ 9223372036854775807) (hA : AtI w ai cs) :
    Calls Tryz.prog 44 #[.slice a n cap, .slice ai cs.length capi] w (SaidB (OkI n cs) w) := by
  have HA := hid hA
  clear hA
  by_cases h0 : cs.length = 0
  · rw [h0]
    go_enter Tryz.func44, Tryz.ntmps44
    go_wp2
    go_ret
    exact ⟨⟨_, rfl, ⟨fun h => (by cases h), fun h => by have := h.pos; omega⟩⟩, rfl⟩
  · by_cases h256 : 256 < cs.length
    · have z0 : ((cs.length : Int) == 0) = false := by rw [beq_eq_false_iff_ne]; omega
      have z1 : (256 : Int) < (cs.length : Int) := by omega
      have e := hid (show ¬ OkI n cs from fun h => by have := h.few; omega)
      generalize cs.length = m at *
      go_enter Tryz.func44, Tryz.ntmps44
      go_wp2
      go_ret
      exact ⟨⟨_, rfl, ⟨fun h => (by cases h), fun h => absurd h e.out⟩⟩, rfl⟩
    · have z0 : ((cs.length : Int) == 0) = false := by rw [beq_eq_false_iff_ne]; omega
      have z1 : ¬ (256 : Int) < (cs.length : Int) := by omega
      obtain ⟨m, hm⟩ : ∃ m, cs.length = m := ⟨_, rfl⟩
      rw [hm] at z0 z1 ⊢
      obtain ⟨x, rfl⟩ := HA.out.pos (by omega)
      go_enter Tryz.func44, Tryz.ntmps44
      go_wp2
      go_loopw [17] (fun i w' => ∃ k : Nat, k ≤ m ∧ i = .int .i64 (k : Int) ∧ Hid (∀ (j : Nat) (x : Int), j < k → cs[j]? = some x → 0 ≤ x ∧ x < n) ∧ Hid (∀ (j : Nat) (x y : Int), j + 1 < k → cs[j]? = some x → cs[j + 1]? = some y → x < y) ∧ w' = w) (fun i _ => m - (intOf i).toNat)
      case atStart => exact ⟨0, by omega, rfl, fun j x hj => by omega, fun j x y hj => by omega, rfl⟩
      case round =>
        obtain ⟨k, hk, rfl, hL, hR, rfl⟩ := hrel
        by_cases hkm : k < m
        · have b0 : (k : Int) < (m : Int) := by omega
          have hcell := HA.out.cell k (by omega)
          have hi : cs[k]? = some cs[k] := List.getElem?_eq_getElem (by omega)
          obtain ⟨i, hie⟩ : ∃ i, cs[k] = i := ⟨_, rfl⟩
          rw [hie] at hcell hi
          have Hi := hid hi
          clear hi hie
          by_cases hin : 0 ≤ i ∧ i < n
          · have hL' : Hid (∀ (j : Nat) (x : Int), j < k + 1 → cs[j]? = some x → 0 ≤ x ∧ x < n) := fun j x hj hx => by
              by_cases e : j = k
              · subst e; rw [Hi.out] at hx; obtain rfl := Option.some.inj hx; exact hin
              · exact hL.out j x (by omega) hx
            have cL := isLeaf_yes a n cap i hin
            by_cases hk0 : k = 0
            · subst hk0
              rw [addr_zero] at hcell
              have b1 : ¬ (0 : Int) < ((0 : Nat) : Int) := by omega
              have hR' : Hid (∀ (j : Nat) (x y : Int), j + 1 < 0 + 1 → cs[j]? = some x → cs[j + 1]? = some y → x < y) := fun j x y hj => by omega
              clear hL hR hin
              go_wp2_with (go_at_call 86; refine (cL _).mono ?_; rintro e w' ⟨rfl, rfl⟩)
              exact ⟨⟨0 + 1, by omega, by go_num, hL', hR', trivial⟩, by simp [intOf]; omega⟩
            · have b1 : (0 : Int) < (k : Int) := by omega
              have b2 : (k : Int) - 1 = ((k - 1 : Nat) : Int) := by omega
              have b3 : (0 : Int) ≤ (k : Int) - 1 := by omega
              have b4 : (k : Int) - 1 < (m : Int) := by omega
              have b5 : ((k : Int) - 1).toNat = k - 1 := by omega
              have hcell2 := HA.out.cell (k - 1) (by omega)
              have hp : cs[k - 1]? = some cs[k - 1] := List.getElem?_eq_getElem (by omega)
              obtain ⟨p, hpe⟩ : ∃ p, cs[k - 1] = p := ⟨_, rfl⟩
              rw [hpe] at hcell2 hp
              have Hp := hid hp
              have B2 := hid b2
              clear hp hpe b2
              by_cases hpi : p < i
              · have b6 : ¬ i ≤ p := by omega
                have hR' : Hid (∀ (j : Nat) (x y : Int), j + 1 < k + 1 → cs[j]? = some x → cs[j + 1]? = some y → x < y) := fun j x y hj hx hy => by
                  by_cases e : j + 1 = k
                  · have ej : j = k - 1 := by omega
                    subst ej
                    rw [Hp.out] at hx
                    rw [e, Hi.out] at hy
                    obtain rfl := Option.some.inj hx
                    obtain rfl := Option.some.inj hy
                    exact hpi
                  · exact hR.out j x y (by omega) hx hy
                clear hL hR hin
                go_wp2_with (go_at_call 86; refine (cL _).mono ?_; rintro e w' ⟨rfl, rfl⟩)
                exact ⟨⟨k + 1, by omega, by go_num, hL', hR', trivial⟩, by simp [intOf]; omega⟩
              · have b6 : i ≤ p := by omega
                have e := hid (show ¬ OkI n cs from fun h => hpi (h.rise (k - 1) p i Hp.out (by rw [show k - 1 + 1 = k from by omega]; exact Hi.out)))
                clear hL hR hin
                go_wp2_with (go_at_call 86; refine (cL _).mono ?_; rintro e w' ⟨rfl, rfl⟩)
                go_ret
                exact ⟨⟨_, rfl, ⟨fun h => (by cases h), fun h => absurd h e.out⟩⟩, rfl⟩
          · have cL := isLeaf_no a n cap i hin
            have e := hid (show ¬ OkI n cs from fun h => hin (h.leaf k i Hi.out))
            clear hL hR hin
            go_wp2_with (go_at_call 86; refine (cL _).mono ?_; rintro e w' ⟨rfl, rfl⟩)
            go_ret
            exact ⟨⟨_, rfl, ⟨fun h => (by cases h), fun h => absurd h e.out⟩⟩, rfl⟩
        · obtain rfl : k = m := by omega
          have b0 : ¬ (k : Int) < (k : Int) := by omega
          have e := hid (show OkI n cs from ⟨by omega, by omega, fun j x hx => hL.out j x (by have := (List.getElem?_eq_some_iff.1 hx).1; omega) hx, fun j x y hx hy => hR.out j x y (by have := (List.getElem?_eq_some_iff.1 hy).1; omega) hx hy⟩)
          clear hL hR
          go_wp2
          go_ret
          exact ⟨⟨_, rfl, ⟨fun _ => e.out, fun _ => rfl⟩⟩, rfl⟩
end Go.Proofs.YticjokhfjkebpaaGreatDoor

namespace Go.Proofs.YticjokhfjkebpaaGreatDoor
open Go.RowKit
open Classical in
/-- T4 -/
noncomputable def manyOut (l : List (List UInt8)) (cs : List Int) : List (List UInt8) × Int := if wrg l = 0 then (if OkI l.length cs then (Tree.many (toN cs) 0 l, 0) else ([], 30)) else ([], wrg l)
set_option maxRecDepth 100000 in
set_option maxHeartbeats 400000 in
theorem Many_any (l : List (List UInt8)) (cs : List Int) (a ai : Option Addr) (cap capi : Nat) (w : World) (hl : l.length ≤ cap) (hc : cap ≤ 9223372036854775807) (hA : At w a l) (T : Tabs w) (hil : cs.length ≤ capi) (hic : capi ≤ 9223372036854775807) (hAi : AtI w ai cs) :
    Calls Tryz.prog 13 #[.slice a l.length cap, .slice ai cs.length capi] w (Out2 w (manyOut l cs)) := by
  have h1 := check_any l a cap w (by omega) hA
  have h3 := areLeaves_any l.length cs a ai cap capi w (by omega) hAi
  by_cases h : wrg l = 0
  · have h4 := wrg_le h
    rw [h] at h1
    by_cases hm : OkI l.length cs
    · have ho : manyOut l cs = (Tree.many (toN cs) 0 l, 0) := by rw [manyOut, if_pos h, if_pos hm]
      rw [ho]
      have hlp : 1 ≤ l.length := by
        have := (hm.leaf 0 _ (List.getElem?_eq_getElem hm.pos))
        omega
      have h2 := many_any l (toN cs) ai a capi cap w (by omega) hlp hl hc hA T (by rw [toN_len]; exact hil) hic (by rw [hm.ix]; exact hAi) hm.sorted
      rw [toN_len] at h2
      generalize Tree.many (toN cs) 0 l = L at *
      have Hm := hid hm
      generalize l.length = n at *
      generalize cs.length = ni at *
      clear h hA T hm ho hAi
      go_enter Tryz.func13, Tryz.ntmps13
      go_wp2_with (first
        | (go_at_call 43; refine h1.mono ?_; rintro e w1 ⟨rfl, rfl⟩)
        | (go_at_call 44; refine h3.mono ?_; rintro e w1 ⟨⟨b, rfl, hb⟩, rfl⟩; obtain rfl := hb.2 Hm.out)
        | (go_at_call 45; refine h2.mono ?_; rintro e w2 ⟨v2, rfl, hO2, hw2⟩))
      go_ret2
      exact ⟨_, rfl, hO2, hw2⟩
    · have ho : manyOut l cs = ([], 30) := by rw [manyOut, if_pos h, if_neg hm]
      rw [ho]
      have Hm := hid hm
      generalize l.length = n at *
      generalize cs.length = ni at *
      clear h hA T hm ho hAi
      go_enter Tryz.func13, Tryz.ntmps13
      go_wp2_with (first
        | (go_at_call 43; refine h1.mono ?_; rintro e w1 ⟨rfl, rfl⟩)
        | (go_at_call 44; refine h3.mono ?_; rintro e w1 ⟨⟨b, rfl, hb⟩, rfl⟩; obtain rfl : b = false := Bool.eq_false_iff.2 (fun hbt => Hm.out (hb.1 hbt))))
      go_ret2
      exact ⟨_, rfl, Own.nil _ _, Below.refl _ _⟩
  · have ho : manyOut l cs = ([], wrg l) := by rw [manyOut, if_neg h]
    rw [ho]
    generalize wrg l = z at *
    generalize l.length = n at *
    generalize cs.length = ni at *
    have b0 : (z != 0) = true := by simpa using h
    clear hA T ho hAi h3
    go_enter Tryz.func13, Tryz.ntmps13
    go_wp2_with (go_at_call 43; refine h1.mono ?_; rintro e w1 ⟨rfl, rfl⟩)
    go_ret2
    exact ⟨_, rfl, Own.nil _ _, Below.refl _ _⟩
theorem Many_hs {l : List (List UInt8)} (h : Tree.Hs l) (hl : l.length ≤ 4096) (cs : List Int) (hok : OkI l.length cs) (a ai : Option Addr) (cap capi : Nat) (w : World) (hlc : l.length ≤ cap) (hc : cap ≤ 9223372036854775807) (hA : At w a l) (T : Tabs w) (hil : cs.length ≤ capi) (hic : capi ≤ 9223372036854775807) (hAi : AtI w ai cs) :
    Calls Tryz.prog 13 #[.slice a l.length cap, .slice ai cs.length capi] w (Out2 w (Tree.many (toN cs) 0 l, 0)) := by
  have hw : wrg l = 0 := by
    rw [wrg, if_neg (by omega), if_pos]
    rw [List.all_eq_true]
    intro x hx
    simpa using h x hx
  have := Many_any l cs a ai cap capi w hlc hc hA T hil hic hAi
  rwa [manyOut, if_pos hw, if_pos hok] at this
end Go.Proofs.YticjokhfjkebpaaGreatDoor

namespace Go.Proofs.YticjokhfjkebpaaGreatDoor.Tree
/-- the path, each hash with its side -/
def zpF : Nat → Nat → List T → List (Bool × T)
  | 0, _, _ => []
  | f + 1, m, l => if l.length < 2 then [] else
    if m < sp l.length then zpF f m (l.take (sp l.length)) ++ [(true, root (l.drop (sp l.length)))] else zpF f (m - sp l.length) (l.drop (sp l.length)) ++ [(false, root (l.take (sp l.length)))]
def zp (m : Nat) (l : List T) : List (Bool × T) := zpF l.length m l
theorem zpF_eq : ∀ (f g m : Nat) (l : List T), l.length ≤ f → l.length ≤ g → zpF f m l = zpF g m l
  | 0, 0, _, _, _, _ => rfl
  | 0, g + 1, m, l, h, _ => by rw [zpF, zpF, if_pos (by omega)]
  | f + 1, 0, m, l, _, h => by rw [zpF, zpF, if_pos (by omega)]
  | f + 1, g + 1, m, l, h1, h2 => by
    rw [zpF, zpF]
    by_cases h : l.length < 2
    · rw [if_pos h, if_pos h]
    · have a := sp_lt (n := l.length) (by omega)
      have b := sp_pos (n := l.length) (by omega)
      rw [if_neg h, if_neg h, zpF_eq f g _ _ (by simp; omega) (by simp; omega), zpF_eq f g _ (l.drop _) (by simp; omega) (by simp; omega)]
theorem zp_small {m : Nat} {l : List T} (h : l.length < 2) : zp m l = [] := by
  rw [zp, zpF_eq _ 1 _ _ (Nat.le_refl _) (by omega), zpF, if_pos h]
theorem zp_cut {m : Nat} {l : List T} (h : 2 ≤ l.length) : zp m l = if m < sp l.length then zp m (l.take (sp l.length)) ++ [(true, root (l.drop (sp l.length)))] else zp (m - sp l.length) (l.drop (sp l.length)) ++ [(false, root (l.take (sp l.length)))] := by
  have a := sp_lt h
  have b := sp_pos h
  have e : zp m l = zpF (l.length - 1 + 1) m l := zpF_eq _ _ _ _ (by omega) (by omega)
  rw [e, zpF, if_neg (by omega), zp, zp, zpF_eq (l.length - 1) _ _ (l.take _) (by simp; omega) (Nat.le_refl _), zpF_eq (l.length - 1) _ _ (l.drop _) (by simp; omega) (Nat.le_refl _)]
theorem path_zp : ∀ (f m : Nat) (l : List T), l.length ≤ f → path m l = (zp m l).map (·.2)
  | 0, m, l, h => by rw [path_small (by omega), zp_small (by omega)]; rfl
  | f + 1, m, l, h => by
    by_cases h2 : l.length < 2
    · rw [path_small h2, zp_small h2]; rfl
    · have a := sp_lt (n := l.length) (by omega)
      have b := sp_pos (n := l.length) (by omega)
      rw [path_cut (by omega), zp_cut (by omega)]
      split
      · rw [path_zp f m _ (by simp; omega)]; simp
      · rw [path_zp f _ (l.drop _) (by simp; omega)]; simp
/-- going up -/
def up (h : T) (zs : List (Bool × T)) : T := zs.foldl (fun h z => if z.1 then nd h z.2 else nd z.2 h) h
theorem up_step (h : T) (zs : List (Bool × T)) (z : Bool × T) : up h (zs ++ [z]) = if z.1 then nd (up h zs) z.2 else nd z.2 (up h zs) := by
  simp [up]
theorem up_root : ∀ (f m : Nat) (l : List T) (h : m < l.length), l.length ≤ f → up l[m] (zp m l) = root l
  | 0, m, l, h, hf => by omega
  | f + 1, m, l, h, hf => by
    by_cases h2 : l.length < 2
    · have h1 : l.length = 1 := by omega
      obtain ⟨a, rfl⟩ := List.length_eq_one_iff.1 h1
      have : m = 0 := by simp at h; omega
      subst this
      rw [zp_small h2]; rfl
    · have a := sp_lt (n := l.length) (by omega)
      have b := sp_pos (n := l.length) (by omega)
      rw [zp_cut (by omega), root_cut (l := l) (by omega)]
      by_cases hm : m < sp l.length
      · rw [if_pos hm, up_step]
        have := up_root f m (l.take (sp l.length)) (by simp; omega) (by simp; omega)
        rw [List.getElem_take] at this
        rw [this]; rfl
      · rw [if_neg hm, up_step]
        have := up_root f (m - sp l.length) (l.drop (sp l.length)) (by simp; omega) (by simp; omega)
        rw [List.getElem_drop] at this
        have e : sp l.length + (m - sp l.length) = m := by omega
        simp only [e] at this
        rw [this]; rfl
def rgt (zs : List (Bool × T)) : List T := (zs.filter (·.1)).map (·.2)
def lft (zs : List (Bool × T)) : List T := ((zs.filter (fun z => !z.1)).map (·.2)).reverse
theorem many_zp : ∀ (f m b : Nat) (l : List T), l.length ≤ f → m < l.length → many [b + m] b l = lft (zp m l) ++ rgt (zp m l)
  | 0, m, b, l, hf, h => by omega
  | f + 1, m, b, l, hf, h => by
    by_cases h2 : l.length < 2
    · rw [zp_small h2, many_one (by simp) (by omega)]; rfl
    · have x := sp_lt (n := l.length) (by omega)
      have y := sp_pos (n := l.length) (by omega)
      rw [zp_cut (by omega), many_cut (by simp) (by omega)]
      by_cases hm : m < sp l.length
      · have ih := many_zp f m b (l.take (sp l.length)) (by simp; omega) (by simp; omega)
        rw [if_pos hm, List.filter_cons_of_pos (by simp; omega), List.filter_nil, List.filter_cons_of_neg (by simp; omega), List.filter_nil, ih, many_none (by simp; omega)]
        simp [lft, rgt]
      · have ih := many_zp f (m - sp l.length) (b + sp l.length) (l.drop (sp l.length)) (by simp; omega) (by simp; omega)
        rw [show b + sp l.length + (m - sp l.length) = b + m from by omega] at ih
        rw [if_neg hm, List.filter_cons_of_neg (by simp; omega), List.filter_nil, List.filter_cons_of_pos (by simp; omega), List.filter_nil, ih, many_none (by simp; omega)]
        simp [lft, rgt]
theorem lr_len (zs : List (Bool × T)) : (lft zs ++ rgt zs).length = zs.length := by
  induction zs with
  | nil => rfl
  | cons z zs ih =>
    obtain ⟨b, t⟩ := z
    cases b <;> simp [lft, rgt] at * <;> omega
/-- how many digits -/
def dg (x : Nat) : Nat := if x = 0 then 0 else x.log2 + 1
theorem dg_le {x L : Nat} (h : x < 2 ^ L) : dg x ≤ L := by
  unfold dg
  split
  · omega
  · rename_i h0
    have := (Nat.log2_lt h0).2 h
    omega
theorem dg_half {x : Nat} (h : 0 < x) : dg x = dg (x / 2) + 1 := by
  unfold dg
  rw [if_neg (by omega)]
  rw [Nat.log2_def]
  by_cases h2 : 2 ≤ x
  · rw [if_pos h2, if_neg (by omega)]
  · rw [if_neg h2, if_pos (by omega)]
theorem zp_dg : ∀ (f m : Nat) (l : List T), l.length ≤ f → (zp m l).length ≤ dg (l.length - 1)
  | 0, m, l, h => by rw [zp_small (by omega)]; simp
  | f + 1, m, l, h => by
    by_cases h2 : l.length < 2
    · rw [zp_small h2]; simp
    · have a := sp_lt (n := l.length) (by omega)
      have b := sp_pos (n := l.length) (by omega)
      have c := sp_ge (n := l.length) (by omega)
      have d := sp_eq (n := l.length) (by omega)
      have e : dg (l.length - 1) = (l.length - 1).log2 + 1 := by unfold dg; rw [if_neg (by omega)]
      rw [zp_cut (by omega), e]
      split
      · have ih := zp_dg f m (l.take (sp l.length)) (by simp; omega)
        have : dg ((l.take (sp l.length)).length - 1) ≤ (l.length - 1).log2 := dg_le (by rw [List.length_take, ← d]; omega)
        rw [List.length_append, List.length_singleton]; omega
      · have ih := zp_dg f (m - sp l.length) (l.drop (sp l.length)) (by simp; omega)
        have : dg ((l.drop (sp l.length)).length - 1) ≤ (l.length - 1).log2 := dg_le (by rw [List.length_drop, ← d]; omega)
        rw [List.length_append, List.length_singleton]; omega
end Go.Proofs.YticjokhfjkebpaaGreatDoor.Tree

namespace Go.Proofs.YticjokhfjkebpaaGreatDoor
open Go.RowKit
set_option maxRecDepth 100000 in
set_option maxHeartbeats 800000 in
theorem same_yes (l : List (List UInt8)) (a d : Option Addr) (ca cd : Nat) (w : World) (ha : At w a l) (hd : At w d l) (hll : l.length ≤ 9223372036854775807) :
    Calls Tryz.prog 16 #[.slice a l.length ca, .slice d l.length cd] w fun e w' => e = .returned (.bool true) ∧ Below w.heap.size w w' ∧ w'.heap = w.heap := by
  have Ha := hid ha
  have Hd := hid hd
  clear ha hd
  go_enter Tryz.func16, Tryz.ntmps16
  go_wp2
  go_loopw [5] (fun i w' => ∃ k : Nat, k ≤ l.length ∧ i = .int .i64 k ∧ Hid (Below w.heap.size w w' ∧ w'.heap = w.heap)) (fun i _ => l.length - (intOf i).toNat)
  case atStart => exact ⟨0, by omega, rfl, hid ⟨Below.refl _ _, rfl⟩⟩
  case round =>
    obtain ⟨k, hk, rfl, hw'⟩ := hrel
    by_cases hlt : k < l.length
    · have b0 : (k : Int) < (l.length : Int) := by omega
      obtain ⟨x, rfl, xb, hx⟩ := Ha.out k l[k] (List.getElem?_eq_getElem hlt)
      rw [← hw'.out.1.cell (p := x.add k) (by rw [addr_block]; exact xb)] at hx
      clear xb
      obtain ⟨y, rfl, yb, hy⟩ := Hd.out k l[k] (List.getElem?_eq_getElem hlt)
      rw [← hw'.out.1.cell (p := y.add k) (by rw [addr_block]; exact yb)] at hy
      clear yb
      rw [svS] at hx hy
      generalize ByteArray.mk (l[k]).toArray = p at *
      have y1 : (p.toList == p.toList) = true := by simp
      have y2 : (p.toList != p.toList) = false := by simp
      go_wp2
      go_quiet (fail)
      go_wp2
      exact ⟨⟨k + 1, by omega, by go_num, hid ⟨below_drewN hw'.out.1 _, hw'.out.2⟩⟩, by simp [intOf]; omega⟩
    · have b0 : ¬ (k : Int) < (l.length : Int) := by omega
      go_wp2
      go_ret
      exact ⟨rfl, hw'.out.1, hw'.out.2⟩
def bls (L : List Bool) : List Value := L.map .bool
theorem bls_length (L : List Bool) : (bls L).length = L.length := by simp [bls]
theorem infoB : (Tryz.prog.info? 4).map (fun i => (i.zero, i.size, i.bytes)) = some (some (.bool false), 1, 1) := by kernel_rfl
/-- append(l, b) -/
theorem append_bool (w : World) (base : Nat) (v : Value) (L : List Bool) (p : Bool) (hown : Own w base v (bls L)) (hlen : L.length ≤ 2000000) (hbase : base ≤ w.heap.size) :
    ∃ v' w', (Builtin.append_ #[180, 180] 180 #[v, .slice (some ⟨w.heap.size, 0, none⟩) 1 1]).run Tryz.prog (w.alloc (.cells #[.bool p] 4)) = .ok v' w' ∧ Own w' base v' (bls (L ++ [p])) ∧ Below base w w' := by
  obtain ⟨i0, hi, hz0, hz1, hz2⟩ := info_parts infoB
  have hsrc : Src Tryz.prog 1 180 (.slice (some ⟨w.heap.size, 0, none⟩) 1 1) 1 [.bool p] (w.alloc (.cells #[.bool p] 4)) :=
    Src.ofSlice _ Tryz.underlying180 ⟨w.heap.size, 0, none⟩ 1 1 [.bool p] (by simp) (fun j u hj => by
      rw [Addr.add_mid, cell_of_row _ _ _ _ _ _ (heap_alloc_new w _), Nat.zero_add]; simpa using hj) (fun u hu => by simp at hu; subst hu; rfl)
  obtain ⟨v', w', h1, h2, h3, h4⟩ := run_append_O (P := Tryz.prog) (w.alloc (.cells #[.bool p] 4)) base 180 180 180 4 i0 (.bool false) Tryz.underlying180 hi hz0 hz1 rfl v (bls L) (hown.alloc _) _ 1 [.bool p] hsrc
    (by rw [bls_length, hz2]; omega) (by rw [bls_length, maxLen]; omega) (by rw [size_alloc]; omega) (fun _ => by omega)
  refine ⟨v', w', h1, by simpa [bls] using h2, ?_⟩
  exact ((Below.refl base w).alloc hbase _).trans (Below.ofGrown h3 hown.ge (by rw [size_alloc]; omega))
/-- a list of yes and no -/
def OutB (w : World) (L : List Bool) (e : Ending) (w' : World) : Prop := ∃ v, e = .returned v ∧ Own w' w.heap.size v (bls L) ∧ Below w.heap.size w w'
end Go.Proofs.YticjokhfjkebpaaGreatDoor

namespace Go.Proofs.YticjokhfjkebpaaGreatDoor
open Go.RowKit

set_option maxRecDepth 100000 in
set_option maxHeartbeats 800000 in
theorem reads_yes (n : Nat) (m : ByteArray) (a : Option Addr) (ca : Nat) (w : World) (ha : At w a (List.replicate n m.data.toList)) (hn : n ≤ 9223372036854775807) :
    Calls Tryz.prog 64 #[.slice a n ca, .string m] w fun e w' => e = .returned (.bool true) ∧ Below w.heap.size w w' ∧ w'.heap = w.heap := by
  have Ha := hid ha
  clear ha
  have y1 : (m.toList == m.toList) = true := by simp
  have y2 : (m.toList != m.toList) = false := by simp
  go_enter Tryz.func64, Tryz.ntmps64
  go_wp2
  go_loopw [5] (fun i w' => ∃ k : Nat, k ≤ n ∧ i = .int .i64 k ∧ Hid (Below w.heap.size w w' ∧ w'.heap = w.heap)) (fun i _ => n - (intOf i).toNat)
  case atStart => exact ⟨0, by omega, rfl, hid ⟨Below.refl _ _, rfl⟩⟩
  case round =>
    obtain ⟨k, hk, rfl, hw'⟩ := hrel
    by_cases hlt : k < n
    · have b0 : (k : Int) < (n : Int) := by omega
      obtain ⟨x, rfl, xb, hx⟩ := Ha.out k m.data.toList (by rw [List.getElem?_replicate, if_pos hlt])
      rw [← hw'.out.1.cell (p := x.add k) (by rw [addr_block]; exact xb)] at hx
      clear xb
      rw [svS, show ByteArray.mk m.data.toList.toArray = m from by cases m; simp] at hx
      go_wp2
      exact ⟨⟨k + 1, by omega, by go_num, hw'⟩, by simp [intOf]; omega⟩
    · have b0 : ¬ (k : Int) < (n : Int) := by omega
      go_wp2
      go_ret
      exact ⟨rfl, hw'.out.1, hw'.out.2⟩
theorem conv_two (n : Nat) (hn : n ≤ 255) (w : World) : (convert 63 9 (.slice (some ⟨w.heap.size, 0, none⟩) 2 2)).run Tryz.prog (w.alloc (.cells #[.int .u8 (n : Int), .int .u8 0] 5)) = .ok (sv [UInt8.ofNat n, 0]) (w.alloc (.cells #[.int .u8 (n : Int), .int .u8 0] 5)) := by
  refine run_conv_bytes (P := Tryz.prog) _ 63 9 5 w.heap.size 0 2 2 [UInt8.ofNat n, 0] rfl Tryz.underlying63 Tryz.underlying5 Tryz.underlying9 ?_
  intro j v hv
  have hX := heap_alloc_new w (.cells #[.int .u8 (n : Int), .int .u8 0] 5)
  match j, hv with
  | 0, hv =>
    have e : v = .int .u8 (n : Int) := by
      simp [bv] at hv
      rw [← hv]; congr 1; omega
    rw [e, cell_of_row _ _ _ _ _ _ hX]; rfl
  | 1, hv =>
    have e : v = .int .u8 0 := by simp [bv] at hv; rw [← hv]
    rw [e, cell_of_row _ _ _ _ _ _ hX]; rfl
  | j + 2, hv => simp [bv] at hv
set_option maxRecDepth 100000 in
set_option maxHeartbeats 800000 in
theorem mark_any (n : Nat) (hn : n ≤ 255) (w : World) :
    Calls Tryz.prog 63 #[.int .i64 n] w fun e w' => ∃ m : ByteArray, e = .returned (.string m) ∧ m.data.toList = [109, 97, 114, 107, UInt8.ofNat n, 0] ∧ Below w.heap.size w w' := by
  have hcv := conv_two n hn w
  have e0 : (n : Int) / 256 = 0 := by omega
  rw [svS] at hcv
  go_enter Tryz.func63, Tryz.ntmps63
  go_wp2
  go_ret
  exact ⟨_, rfl, by simp [ByteArray.data_append], (Below.refl _ _).alloc (Nat.le_refl _) _⟩
end Go.Proofs.YticjokhfjkebpaaGreatDoor

namespace Go.Proofs.YticjokhfjkebpaaGreatDoor
open Go.RowKit
def sides (m : Nat) (l : List (List UInt8)) : List Bool := (Tree.zp m l).map (·.1)
end Go.Proofs.YticjokhfjkebpaaGreatDoor

namespace Go.Proofs.YticjokhfjkebpaaGreatDoor
open Go.RowKit
/-- append(l, s), and what stays -/
theorem append_text2 (w : World) (base : Nat) (v : Value) (L : List (List UInt8)) (p : List UInt8) (hown : Own w base v (svs L)) (hlen : L.length ≤ 2000000) (hbase : base ≤ w.heap.size) :
    ∃ v' w', (Builtin.append_ #[24, 24] 24 #[v, .slice (some ⟨w.heap.size, 0, none⟩) 1 1]).run Tryz.prog (w.alloc (.cells #[sv p] 9)) = .ok v' w' ∧ Own w' base v' (svs (L ++ [p])) ∧ Below base w w' ∧
      w.grownBy w' v.ownBlock ∧ (v'.ownBlock = v.ownBlock ∨ v'.ownBlock = some (w.heap.size + 1)) := by
  obtain ⟨i0, hi, hz0, hz1, hz2⟩ := info_parts infoS
  have hsrc : Src Tryz.prog 1 24 (.slice (some ⟨w.heap.size, 0, none⟩) 1 1) 1 [sv p] (w.alloc (.cells #[sv p] 9)) :=
    Src.ofSlice _ Tryz.underlying24 ⟨w.heap.size, 0, none⟩ 1 1 [sv p] (by simp) (fun j u hj => by
      rw [Addr.add_mid, cell_of_row _ _ _ _ _ _ (heap_alloc_new w _), Nat.zero_add]; simpa using hj) (fun u hu => by simp at hu; subst hu; rfl)
  obtain ⟨v', w', h1, h2, h3, h4⟩ := run_append_O (P := Tryz.prog) (w.alloc (.cells #[sv p] 9)) base 24 24 24 9 i0 (.string ⟨#[]⟩) Tryz.underlying24 hi hz0 hz1 rfl v (svs L) (hown.alloc _) _ 1 [sv p] hsrc
    (by rw [svs_length, hz2]; omega) (by rw [svs_length, maxLen]; omega) (by rw [size_alloc]; omega) (fun _ => by omega)
  refine ⟨v', w', h1, by simpa [svs] using h2, ((Below.refl base w).alloc hbase _).trans (Below.ofGrown h3 hown.ge (by rw [size_alloc]; omega)), ?_, by rw [size_alloc] at h4; exact h4⟩
  exact ⟨h3.os, h3.tape, h3.output, by have := h3.size; rw [size_alloc] at this; omega, fun k hk hne => (h3.block k (by rw [size_alloc]; omega) hne).trans (Below.heap_alloc w _ k hk)⟩
theorem Own.lt {w : World} {base : Nat} {v : Value} {cs : List Value} (h : Own w base v cs) : ∀ g, v.ownBlock = some g → g < w.heap.size := by
  rcases h with ⟨rfl, _⟩ | ⟨g', cap, rfl, h1, h2, h3, h4, h5, h6⟩
  · intro g hg; cases hg
  · intro g hg; cases hg; exact h6
/-- yes and no that lie at an address -/
def AtB (w : World) (a : Option Addr) (l : List Bool) : Prop := ∀ j p, l[j]? = some p → ∃ x : Addr, a = some x ∧ x.block < w.heap.size ∧ w.cell? (x.add j) = some (.bool p)
theorem AtB.below {w w' : World} {a : Option Addr} {l : List Bool} {B : Nat} (h : AtB w a l) (hb : Below B w w') (hB : w.heap.size ≤ B) : AtB w' a l := fun j p hp => by
  obtain ⟨x, rfl, hx, hc⟩ := h j p hp
  exact ⟨x, rfl, Nat.lt_of_lt_of_le hx hb.size, (hb.cell (p := x.add j) (by rw [addr_block]; omega)).trans hc⟩
theorem Own.atB {w : World} {base : Nat} {v : Value} {L : List Bool} (h : Own w base v (bls L)) : ∃ a cap, v = .slice a L.length cap ∧ AtB w a L ∧ L.length ≤ cap ∧ cap ≤ 9223372036854775807 := by
  rcases h with ⟨rfl, h⟩ | ⟨g, cap, rfl, h1, h2, h3, h4, h5, h6⟩
  · obtain rfl : L = [] := by simpa [bls] using h
    exact ⟨none, 0, rfl, fun j p hp => by simp at hp, by simp, by omega⟩
  · rw [bls_length] at h2
    refine ⟨some ⟨g, 0, none⟩, cap, by rw [bls_length], fun j p hp => ⟨_, rfl, h6, ?_⟩, h2, h3⟩
    rw [Addr.add_mid]
    exact h4 j (.bool p) (by simp [bls, hp])
theorem atI_one (w : World) (m : Int) : AtI (w.alloc (.cells #[.int .i64 m] 3)) (some ⟨w.heap.size, 0, none⟩) [m] := fun j p hp => by
  refine ⟨_, rfl, by rw [size_alloc]; exact Nat.lt_succ_self _, ?_⟩
  rw [Addr.add_mid, cell_of_row _ _ _ _ _ _ (heap_alloc_new w _), Nat.zero_add]
  match j, hp with
  | 0, h => obtain rfl := Option.some.inj h; rfl
theorem okI_one (n m : Nat) (h : m < n) : OkI n [(m : Int)] := by
  refine ⟨by simp, by simp, fun j x hx => ?_, fun j x y hx hy => by simp at hy⟩
  match j, hx with
  | 0, h' => obtain rfl := Option.some.inj h'; omega
/-- going up so far -/
structure Up (L : List (List UInt8)) (m : Nat) (h0 : List UInt8) (base : Nat) (ws : World) (k : Nat) (vh vl vr : Value) (w : World) : Prop where
  h : vh = sv (Tree.up h0 ((Tree.zp m L).take k))
  l : Own w base vl (svs (Tree.lft ((Tree.zp m L).take k)))
  r : Own w base vr (svs (Tree.rgt ((Tree.zp m L).take k)))
  apart : ∀ g, vl.ownBlock = some g → vr.ownBlock ≠ some g
  below : Below base ws w
theorem lft_step (zs : List (Bool × Tree.T)) (t : Tree.T) : Tree.lft (zs ++ [(false, t)]) = t :: Tree.lft zs := by simp [Tree.lft]
theorem lft_skip (zs : List (Bool × Tree.T)) (t : Tree.T) : Tree.lft (zs ++ [(true, t)]) = Tree.lft zs := by simp [Tree.lft]
theorem rgt_step (zs : List (Bool × Tree.T)) (t : Tree.T) : Tree.rgt (zs ++ [(true, t)]) = Tree.rgt zs ++ [t] := by simp [Tree.rgt]
theorem rgt_skip (zs : List (Bool × Tree.T)) (t : Tree.T) : Tree.rgt (zs ++ [(false, t)]) = Tree.rgt zs := by simp [Tree.rgt]
theorem rgt_len (zs : List (Bool × Tree.T)) : (Tree.rgt zs).length ≤ zs.length := by
  have := Tree.lr_len zs; rw [List.length_append] at this; omega
theorem lft_len (zs : List (Bool × Tree.T)) : (Tree.lft zs).length ≤ zs.length := by
  have := Tree.lr_len zs; rw [List.length_append] at this; omega
end Go.Proofs.YticjokhfjkebpaaGreatDoor

namespace Go.Proofs.YticjokhfjkebpaaGreatDoor
open Go.RowKit

theorem infoLS : (Tryz.prog.info? 24).map (fun i => (i.zero, i.size, i.bytes)) = some (some (.slice none 0 0), 1, 24) := by kernel_rfl
/-- append(ls, l): a list of lists -/
theorem append_row (w : World) (base : Nat) (v : Value) (cs : List Value) (a : Option Addr) (n cap : Nat) (hown : Own w base v cs) (hlen : cs.length ≤ 2000000) (hbase : base ≤ w.heap.size) :
    ∃ v' w', (Builtin.append_ #[53, 53] 53 #[v, .slice (some ⟨w.heap.size, 0, none⟩) 1 1]).run Tryz.prog (w.alloc (.cells #[.slice a n cap] 24)) = .ok v' w' ∧ Own w' base v' (cs ++ [.slice a n cap]) ∧ Below base w w' ∧
      w.grownBy w' v.ownBlock ∧ (v'.ownBlock = v.ownBlock ∨ v'.ownBlock = some (w.heap.size + 1)) := by
  obtain ⟨i0, hi, hz0, hz1, hz2⟩ := info_parts infoLS
  have hsrc : Src Tryz.prog 1 53 (.slice (some ⟨w.heap.size, 0, none⟩) 1 1) 1 [.slice a n cap] (w.alloc (.cells #[.slice a n cap] 24)) :=
    Src.ofSlice _ Tryz.underlying53 ⟨w.heap.size, 0, none⟩ 1 1 [.slice a n cap] (by simp) (fun j u hj => by
      rw [Addr.add_mid, cell_of_row _ _ _ _ _ _ (heap_alloc_new w _), Nat.zero_add]; simpa using hj) (fun u hu => by simp at hu; subst hu; rfl)
  obtain ⟨v', w', h1, h2, h3, h4⟩ := run_append_O (P := Tryz.prog) (w.alloc (.cells #[.slice a n cap] 24)) base 53 53 53 24 i0 (.slice none 0 0) Tryz.underlying53 hi hz0 hz1 rfl v cs (hown.alloc _) _ 1 [.slice a n cap] hsrc
    (by rw [hz2]; omega) (by rw [maxLen]; omega) (by rw [size_alloc]; omega) (fun _ => by omega)
  refine ⟨v', w', h1, h2, ((Below.refl base w).alloc hbase _).trans (Below.ofGrown h3 hown.ge (by rw [size_alloc]; omega)), ?_, by rw [size_alloc] at h4; exact h4⟩
  exact ⟨h3.os, h3.tape, h3.output, by have := h3.size; rw [size_alloc] at this; omega, fun k hk hne => (h3.block k (by rw [size_alloc]; omega) hne).trans (Below.heap_alloc w _ k hk)⟩
end Go.Proofs.YticjokhfjkebpaaGreatDoor

namespace Go.Proofs.YticjokhfjkebpaaGreatDoor
open Go.RowKit

/-- everything outside S is as it was -/
structure Keep (S : Nat → Prop) (w w' : World) : Prop where
  os : w'.os = w.os
  tape : w'.tape = w.tape
  output : w'.output = w.output
  size : w.heap.size ≤ w'.heap.size
  block : ∀ k, k < w.heap.size → ¬ S k → w'.heap[k]? = w.heap[k]?
theorem Keep.refl (S : Nat → Prop) (w : World) : Keep S w w := ⟨rfl, rfl, rfl, Nat.le_refl _, fun _ _ _ => rfl⟩
theorem Keep.trans {S T : Nat → Prop} {w w1 w2 : World} (h : Keep S w w1) (k : Keep T w1 w2) (hT : ∀ j, j < w.heap.size → T j → S j) : Keep S w w2 :=
  ⟨k.os.trans h.os, k.tape.trans h.tape, k.output.trans h.output, Nat.le_trans h.size k.size, fun i hi hb => (k.block i (Nat.lt_of_lt_of_le hi h.size) (fun e => hb (hT i hi e))).trans (h.block i hi hb)⟩
theorem Keep.mono {S T : Nat → Prop} {w w' : World} (h : Keep S w w') (hT : ∀ j, j < w.heap.size → S j → T j) : Keep T w w' := ⟨h.os, h.tape, h.output, h.size, fun k hk hb => h.block k hk fun e => hb (hT k hk e)⟩
theorem Keep.ofBelow {S : Nat → Prop} {w w' : World} (h : Below w.heap.size w w') : Keep S w w' := ⟨h.os, h.tape, h.output, h.size, fun k hk _ => h.block k hk⟩
theorem Keep.ofGrown {S : Nat → Prop} {w w' : World} {row : Option Nat} (h : w.grownBy w' row) (hr : ∀ k, row = some k → S k) : Keep S w w' :=
  ⟨h.os, h.tape, h.output, h.size, fun k hk hs => h.block k hk fun e => hs (hr k e.symm)⟩
theorem Keep.ofSet {S : Nat → Prop} (w : World) (b o : Nat) (v : Value) (hb : S b) : Keep S w (w.setCell ⟨b, o, none⟩ v) :=
  ⟨rfl, rfl, rfl, by simp [World.setCell], fun k _ hs => Below.heap_setCell w _ v k (fun e => hs (e ▸ hb))⟩
theorem Own.keep {S : Nat → Prop} {w w' : World} {base : Nat} {v : Value} {cs : List Value} (h : Own w base v cs) (hb : Keep S w w') (hne : ∀ k, v.ownBlock = some k → ¬ S k) : Own w' base v cs := by
  refine h.kept hb.size fun g hg => hb.block g ?_ (hne g hg)
  rcases h with ⟨rfl, _⟩ | ⟨g', cap, rfl, h1, h2, h3, h4, h5, h6⟩
  · cases hg
  · cases hg; exact h6
theorem own_sl {w : World} {base : Nat} {v : Value} {cs : List Value} (h : Own w base v cs) : ∃ a n c, v = .slice a n c := by
  rcases h with ⟨rfl, _⟩ | ⟨g', cap, rfl, _⟩ <;> exact ⟨_, _, _, rfl⟩
/-- a list was taken into the book -/
structure Took (w w' : World) (X base : Nat) (vf vw vl vg vh u : Value) (FS WS : List Value) (L : List (List UInt8)) (vf' vw' c : Value) : Prop where
  row : w'.heap[X]? = some (.cells #[vf', vw', vl, vg, vh] 55 (0, 0))
  free : Own w' base vf' (FS ++ [u])
  was : Own w' base vw' (WS ++ [c])
  copy : Own w' w.heap.size c (svs L)
  keep : Keep (fun k => k = X ∨ vf.ownBlock = some k ∨ vw.ownBlock = some k) w w'
  srcF : ∀ k, vf'.ownBlock = some k → vf.ownBlock = some k ∨ w.heap.size ≤ k
  srcW : ∀ k, vw'.ownBlock = some k → vw.ownBlock = some k ∨ w.heap.size ≤ k
  apart : ∀ k, vf'.ownBlock = some k → vw'.ownBlock ≠ some k
  fresh : ∀ k, c.ownBlock = some k → k ≠ X ∧ vf'.ownBlock ≠ some k ∧ vw'.ownBlock ≠ some k
set_option maxRecDepth 100000 in
set_option maxHeartbeats 1600000 in
theorem takes_any (X base b2 : Nat) (vf vw vl vg vh : Value) (a : Option Addr) (n cap : Nat) (FS WS : List Value) (L : List (List UInt8)) (w : World) (hX : w.heap[X]? = some (.cells #[vf, vw, vl, vg, vh] 55 (0, 0)))
    (hf : Own w base vf FS) (hw : Own w base vw WS) (hu : Own w b2 (.slice a n cap) (svs L)) (hfl : FS.length ≤ 1000000) (hwl : WS.length ≤ 1000000) (hL : L.length ≤ 2000000) (hbase : base ≤ w.heap.size)
    (hFX : vf.ownBlock ≠ some X) (hWX : vw.ownBlock ≠ some X) (hFW : ∀ k, vf.ownBlock = some k → vw.ownBlock ≠ some k)
    (hU : ∀ k, (Value.slice a n cap).ownBlock = some k → k ≠ X ∧ vf.ownBlock ≠ some k ∧ vw.ownBlock ≠ some k) :
    Calls Tryz.prog 23 #[.pointer (some ⟨X, 0, none⟩), .slice a n cap] w fun r w' => r = .returned (.tuple #[]) ∧ ∃ vf' vw' c, Took w w' X base vf vw vl vg vh (.slice a n cap) FS WS L vf' vw' c := by
  have hXl : X < w.heap.size := lt_of_heap hX
  have c0 : w.cell? ⟨X, 0, none⟩ = some vf := by rw [cell_of_row _ _ _ _ _ _ hX]; rfl
  obtain ⟨vf', w1, hc1, o1, _, g1, s1⟩ := append_row w base vf FS a n cap hf (by omega) hbase
  have k1 : Keep (fun k => vf.ownBlock = some k) w w1 := Keep.ofGrown g1 (fun k hk => hk)
  have hX1 := (k1.block X hXl hFX).trans hX
  have f1 : w1.frozen? ⟨X, 0, none⟩ = false := frozen_of_row _ _ _ _ _ hX1
  have d0 : w1.cell? ⟨X, 0, none⟩ = some vf := by rw [cell_of_row _ _ _ _ _ _ hX1]; rfl
  have hX2 : (w1.setCell ⟨X, 0, none⟩ vf').heap[X]? = some (.cells #[vf', vw, vl, vg, vh] 55 (0, 0)) := heap_setCell_same w1 X 0 _ _ vf' hX1
  have k12 : Keep (fun k => k = X) w1 (w1.setCell ⟨X, 0, none⟩ vf') := Keep.ofSet w1 X 0 vf' rfl
  have fF : ∀ k, vf'.ownBlock = some k → vf.ownBlock = some k ∨ w.heap.size ≤ k := fun k hk => by
    rcases s1 with e | e
    · left; rw [← e]; exact hk
    · right; rw [e] at hk; injection hk with hk; omega
  have fFX : ∀ k, vf'.ownBlock = some k → k ≠ X := fun k hk e => by
    rcases fF k hk with h | h
    · exact hFX (e ▸ h)
    · omega
  have o2 := o1.keep k12 fFX
  have hu2 := (hu.keep k1 (fun k hk e => (hU k hk).2.1 e)).keep k12 (fun k hk => (hU k hk).1)
  have hw2 := (hw.keep k1 (fun k hk e => hFW k e hk)).keep k12 (fun k hk e => hWX (e ▸ hk))
  have K2 : Keep (fun k => k = X ∨ vf.ownBlock = some k) w (w1.setCell ⟨X, 0, none⟩ vf') := (k1.mono (fun _ _ h => .inr h)).trans k12 (fun _ _ h => .inl h)
  obtain ⟨w2, hw2e⟩ : ∃ w2, w1.setCell ⟨X, 0, none⟩ vf' = w2 := ⟨_, rfl⟩
  rw [hw2e] at hX2 o2 hu2 hw2 K2
  obtain ⟨wd, hwd⟩ : ∃ wd, w2.drew = wd := ⟨_, rfl⟩
  replace hX2 : wd.heap[X]? = some (.cells #[vf', vw, vl, vg, vh] 55 (0, 0)) := by rw [← hwd]; exact hX2
  replace o2 : Own wd base vf' (FS ++ [.slice a n cap]) := by rw [← hwd]; exact o2.drew
  replace hu2 : Own wd b2 (.slice a n cap) (svs L) := by rw [← hwd]; exact hu2.drew
  replace hw2 : Own wd base vw WS := by rw [← hwd]; exact hw2.drew
  replace K2 : Keep (fun k => k = X ∨ vf.ownBlock = some k) w wd := by rw [← hwd]; exact ⟨K2.os, K2.tape, K2.output, K2.size, K2.block⟩
  have sz2 := K2.size
  have c2 : wd.cell? ⟨X, 1, none⟩ = some vw := by rw [cell_of_row _ _ _ _ _ _ hX2]; rfl
  obtain ⟨c, w3, hc2, o3, b3⟩ := append_list wd wd.heap.size b2 (.slice none 0 0) (.slice a n cap) [] L (Own.nil _ _) hu2 (by simp; omega) (Nat.le_refl _)
  rw [List.nil_append] at o3
  have sz3 := b3.size
  have hX3 := (b3.block X (by omega)).trans hX2
  have c3 : w3.cell? ⟨X, 1, none⟩ = some vw := by rw [cell_of_row _ _ _ _ _ _ hX3]; rfl
  obtain ⟨a3, n3, cap3, rfl⟩ := own_sl o3
  have c3x : (w3.alloc (.cells #[.slice a3 n3 cap3] 24)).cell? ⟨X, 1, none⟩ = some vw := by
    rw [World.cell?_of_block (w := w3) (Below.heap_alloc w3 _ X (by omega))]; exact c3
  obtain ⟨vw', w4, hc3, o4, _, g4, s4⟩ := append_row w3 base vw WS a3 n3 cap3 (hw2.below b3 (Nat.le_refl _)) (by omega) (by omega)
  have k4 : Keep (fun k => vw.ownBlock = some k) w3 w4 := Keep.ofGrown g4 (fun k hk => hk)
  have hX4 := (k4.block X (by omega) hWX).trans hX3
  have f4 : w4.frozen? ⟨X, 1, none⟩ = false := frozen_of_row _ _ _ _ _ hX4
  have d4 : w4.cell? ⟨X, 1, none⟩ = some vw := by rw [cell_of_row _ _ _ _ _ _ hX4]; rfl
  have hX5 : (w4.setCell ⟨X, 1, none⟩ vw').heap[X]? = some (.cells #[vf', vw', vl, vg, vh] 55 (0, 0)) := heap_setCell_same w4 X 1 _ _ vw' hX4
  have k45 : Keep (fun k => k = X) w4 (w4.setCell ⟨X, 1, none⟩ vw') := Keep.ofSet w4 X 1 vw' rfl
  have hwlt := hw.lt
  have fW : ∀ k, vw'.ownBlock = some k → vw.ownBlock = some k ∨ w3.heap.size ≤ k := fun k hk => by
    rcases s4 with e | e
    · left; rw [← e]; exact hk
    · right; rw [e] at hk; injection hk with hk; omega
  have hlf := o2.lt
  have hge := o3.ge
  have res : Took w (w4.setCell ⟨X, 1, none⟩ vw') X base vf vw vl vg vh (.slice a n cap) FS WS L vf' vw' (.slice a3 n3 cap3) := by
    refine ⟨hX5, ?_, ?_, ?_, ?_, fF, fun k hk => (fW k hk).imp id (fun h => by omega), fun k h1 h2 => ?_, fun k h1 => ⟨fun e => ?_, fun e => ?_, fun e => ?_⟩⟩
    · refine ((o2.below b3 (Nat.le_refl _)).keep k4 (fun k h1 h2 => ?_)).keep k45 fFX
      rcases fF k h1 with h | h
      · exact hFW k h h2
      · have := hwlt k h2; omega
    · refine o4.keep k45 (fun k hk e => ?_)
      rcases fW k hk with h | h
      · exact hWX (e ▸ h)
      · omega
    · have o3' := o3
      refine (((o3.keep k4 (fun k h1 h2 => ?_)).keep k45 (fun k h1 e => ?_))).mono sz2
      · have := hge k h1; have := hwlt k h2; omega
      · have := hge k h1; omega
    · refine (((K2.mono (fun _ _ h => h.imp id .inl)).trans (Keep.ofBelow (S := fun _ => False) b3) (fun _ _ h => h.elim)).trans k4 (fun _ _ h => .inr (.inr h))).trans k45 (fun _ _ h => .inl h)
    · rcases fW k h2 with h | h
      · rcases fF k h1 with h' | h'
        · exact hFW k h' h
        · have := hwlt k h; omega
      · have := hlf k h1; omega
    · have := hge k h1; omega
    · have := hge k h1; have := hlf k e; omega
    · have h2 := hge k h1
      rcases fW k e with h | h
      · have := hwlt k h; omega
      · have := o3.lt k h1; omega
  have RES := hid res
  obtain ⟨a1, n1, cap1, hvf⟩ := own_sl hf
  obtain ⟨a1', n1', cap1', hvf'⟩ := own_sl o1
  obtain ⟨a2, n2, cap2, hvw⟩ := own_sl hw
  obtain ⟨a2', n2', cap2', hvw'⟩ := own_sl o4
  subst hvf hvf' hvw hvw'
  clear hX hX1 hX2 hX3 hX4 hX5 o1 o2 o3 o4 k1 k12 k4 k45 K2 hu hu2 hw hw2 hf g1 g4 s1 s4 fF fFX fW hwlt hlf hge b3 res hFX hWX hFW hU
  go_enter Tryz.func23, Tryz.ntmps23
  go_wp2_with (at_builtin; go_must (refine Lib.wpList_append_run _ rfl _ _ 53 53 rfl _ _ rfl rfl _ _ hc1 ?_))
  subst hwd
  have c3a : (w3.alloc (.cells #[.slice a3 n3 cap3] 24)).cell? ⟨X, 1, none⟩ = some (.slice a2 n2 cap2) := c3x
  go_region_law (first
    | (refine step_append_run rfl _ _ 24 rfl (.slice none 0 0) (.slice a n cap) _ w3 rfl rfl hc2 ?_)
    | (refine step_append_run rfl _ _ 53 rfl _ _ _ w4 rfl rfl hc3 ?_))
  all_goals
    go_wp2
    go_end0
    exact ⟨rfl, _, _, _, RES.out⟩
end Go.Proofs.YticjokhfjkebpaaGreatDoor
