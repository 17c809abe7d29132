import Derived.Test.YtmhgdcfmfcjagaaGreatDoorPkN6
import Derived.Test.YtmhgdcfmfcjagaaGreatDoorPkG3
namespace Go.Proofs.YtmhgdcfmfcjagaaGreatDoor
open Go.RowKit Cod
namespace Msg

/-- the document's word of a kind -/
def fw (k : Int) : List UInt8 :=
  if k = 1 then [101] else if k = 2 then [45] else if k = 3 then [115] else if k = 4 ∨ k = 5 then [97, 115] else if k = 6 then [115, 105] else if k = 7 then [104]
  else if k = 8 ∨ k = 9 then [97, 98, 115] else if k = 10 ∨ k = 11 then [97] else if k = 12 then [103] else []
set_option maxRecDepth 100000 in
set_option maxHeartbeats 2000000 in
theorem fields17_any (k : Int) (w : World) : Calls Tryz.prog 32 #[.int .i64 k] w fun e w' => e = .returned (sv (fw k)) ∧ w' = w := by
  by_cases h : 1 ≤ k ∧ k ≤ 12
  · obtain ⟨n, rfl⟩ := Int.eq_ofNat_of_zero_le (show 0 ≤ k by omega)
    have h1 : 1 ≤ n := by omega
    have h2 : n ≤ 12 := by omega
    match n, h1, h2 with
    | 1, _, _ | 2, _, _ | 3, _, _ | 4, _, _ | 5, _, _ | 6, _, _ | 7, _, _ | 8, _, _ | 9, _, _ | 10, _, _ | 11, _, _ | 12, _, _ =>
      go_enter Tryz.func32, Tryz.ntmps32
      go_wp2
      go_ret
      exact ⟨rfl, rfl⟩
  · have e : fw k = [] := by
      rw [fw, if_neg (by omega), if_neg (by omega), if_neg (by omega), if_neg (by omega), if_neg (by omega), if_neg (by omega), if_neg (by omega), if_neg (by omega), if_neg (by omega)]
    rw [e]
    have a1 : (k == 1) = false := by simp; omega
    have a2 : (k == 2) = false := by simp; omega
    have a3 : (k == 3) = false := by simp; omega
    have a4 : (k == 4) = false := by simp; omega
    have a5 : (k == 5) = false := by simp; omega
    have a6 : (k == 6) = false := by simp; omega
    have a7 : (k == 7) = false := by simp; omega
    have a8 : (k == 8) = false := by simp; omega
    have a9 : (k == 9) = false := by simp; omega
    have a10 : (k == 10) = false := by simp; omega
    have a11 : (k == 11) = false := by simp; omega
    have a12 : (k == 12) = false := by simp; omega
    go_enter Tryz.func32, Tryz.ntmps32
    go_wp2
    go_ret
    exact ⟨rfl, rfl⟩
/-- has a word a letter? -/
def hasB (l : List UInt8) (c : Nat) : Bool := l.any fun x => x.toNat == c
theorem hasB_take {l : List UInt8} {k c : Nat} (hk : k < l.length) (h : hasB (l.take k) c = false) (hne : ¬ l[k].toNat = c) : hasB (l.take (k + 1)) c = false := by
  rw [hasB, List.take_add_one, List.getElem?_eq_getElem hk, List.any_append]
  have h : (l.take k).any (fun x => x.toNat == c) = false := h
  rw [h]
  simp [hne]
theorem hasB_at {l : List UInt8} {k c : Nat} (hk : k < l.length) (he : l[k].toNat = c) : hasB l c = true := by
  rw [hasB, List.any_eq_true]
  exact ⟨l[k], List.getElem_mem hk, by simp [he]⟩
set_option maxRecDepth 100000 in
set_option maxHeartbeats 1000000 in
theorem has17_any (s : ByteArray) (c : Nat) (hs : s.size ≤ 9223372036854775807) (w : World) : Calls Tryz.prog 68 #[.string s, .int .u8 (c : Int)] w fun e w' => e = .returned (.bool (hasB s.data.toList c)) ∧ w' = w := by
  obtain ⟨R, hR⟩ : ∃ R, Hid (hasB s.data.toList c = R) := ⟨_, rfl⟩
  rw [hR.out]
  go_enter Tryz.func68, Tryz.ntmps68
  go_wp2
  go_loopw [5] (fun i w' => ∃ k : Nat, k ≤ s.size ∧ i = .int .i64 k ∧ Hid (hasB (s.data.toList.take k) c = false) ∧ w' = w) (fun i _ => s.size - (intOf i).toNat)
  case atStart => exact ⟨0, by omega, rfl, hid rfl, rfl⟩
  case round =>
    obtain ⟨k, hk, rfl, hH, rfl⟩ := hrel
    by_cases hlt : k < s.size
    · have b0 : (k : Int) < (s.size : Int) := by omega
      obtain ⟨x, hx, hx2, hi, hi2⟩ := index_any s (k : Int) k rfl hlt
      have hkl : k < s.data.toList.length := by rw [data_length]; exact hlt
      have hxe : s.data.toList[k].toNat = x := by
        rw [hx.out, List.getD_eq_getElem?_getD, List.getElem?_eq_getElem hkl]; rfl
      by_cases hc : x = c
      · subst hc
        have HE := hid (hasB_at hkl hxe)
        have y1 : ((x : Int) == (x : Int)) = true := by simp
        clear hxe hkl
        go_wp2
        go_ret
        exact ⟨by rw [← hR.out, HE.out]; rfl, rfl⟩
      · have y1 : ((x : Int) == (c : Int)) = false := by simp; omega
        have HN : Hid (hasB (s.data.toList.take (k + 1)) c = false) := hasB_take hkl hH.out (by rw [hxe]; exact hc)
        clear hxe hkl
        go_wp2
        exact ⟨⟨k + 1, by omega, by go_num, HN, (by first | rfl | trivial)⟩, by simp [intOf]; omega⟩
    · have b0 : ¬ (k : Int) < (s.size : Int) := by omega
      obtain rfl : k = s.size := by omega
      have e : hasB s.data.toList c = false := by
        have := hH.out
        rwa [List.take_of_length_le (by rw [data_length]; exact Nat.le_refl _)] at this
      have HE := hid e
      clear e
      go_wp2
      go_ret
      exact ⟨by rw [← hR.out, HE.out]; rfl, rfl⟩
set_option maxRecDepth 100000 in
theorem size17_any (n : Int) (w : World) : Calls Tryz.prog 65 #[.int .i64 n] w fun e w' => e = .returned (.bool (isSz n)) ∧ w' = w := by
  by_cases h1 : 0 ≤ n
  · by_cases h2 : n ≤ 1099511627776
    · rw [show isSz n = true from decide_eq_true ⟨h1, h2⟩]
      go_enter Tryz.func65, Tryz.ntmps65
      go_wp2
      go_ret
      exact ⟨rfl, rfl⟩
    · rw [show isSz n = false from decide_eq_false (fun h => h2 h.2)]
      go_enter Tryz.func65, Tryz.ntmps65
      go_wp2
      go_ret
      exact ⟨rfl, rfl⟩
  · rw [show isSz n = false from decide_eq_false (fun h => h1 h.1)]
    go_enter Tryz.func65, Tryz.ntmps65
    go_wp2
    go_ret
    exact ⟨rfl, rfl⟩
/-- texts that may be -/
def txB (l : List (List UInt8)) (least many most : Int) : Bool := decide (least ≤ (l.length : Int) ∧ (l.length : Int) ≤ many) && l.all fun p => decide ((p.length : Int) ≤ most)
set_option maxRecDepth 100000 in
set_option maxHeartbeats 1000000 in
theorem texts17_any (u : Value) (l : List (List UInt8)) (least many most : Int) (hl : l.length ≤ maxLen) (w : World) (hs : Slc w u l) :
    Calls Tryz.prog 66 #[u, .int .i64 least, .int .i64 many, .int .i64 most] w fun e w' => e = .returned (.bool (txB l least many most)) ∧ w' = w := by
  obtain ⟨a, ca, rfl, ha⟩ := hs
  unfold maxLen at hl
  have Ha := hid ha
  clear ha
  by_cases h1 : (l.length : Int) < least
  · rw [show txB l least many most = false from by rw [txB, decide_eq_false (by omega), Bool.false_and]]
    go_enter Tryz.func66, Tryz.ntmps66
    go_wp2
    go_ret
    exact ⟨rfl, rfl⟩
  · by_cases h2 : many < (l.length : Int)
    · rw [show txB l least many most = false from by rw [txB, decide_eq_false (by omega), Bool.false_and]]
      go_enter Tryz.func66, Tryz.ntmps66
      go_wp2
      go_ret
      exact ⟨rfl, rfl⟩
    · rw [show txB l least many most = l.all (fun p => decide ((p.length : Int) ≤ most)) from by rw [txB, decide_eq_true (by omega), Bool.true_and]]
      obtain ⟨R, hR⟩ : ∃ R, Hid (l.all (fun p => decide ((p.length : Int) ≤ most)) = R) := ⟨_, rfl⟩
      rw [hR.out]
      go_enter Tryz.func66, Tryz.ntmps66
      go_wp2
      go_loopw [9] (fun i w' => ∃ k : Nat, k ≤ l.length ∧ i = .int .i64 k ∧ Hid (∀ p ∈ l.take k, (p.length : Int) ≤ most) ∧ w' = w) (fun i _ => l.length - (intOf i).toNat)
      case atStart => exact ⟨0, by omega, rfl, hid (fun p hp => by simp at hp), rfl⟩
      case round =>
        obtain ⟨k, hk, rfl, hH, rfl⟩ := hrel
        by_cases hlt : k < l.length
        · have b0 : (k : Int) < (l.length : Int) := by omega
          obtain ⟨x, rfl, xb, hx⟩ := Ha.out k l[k] (List.getElem?_eq_getElem hlt)
          obtain ⟨P, hP⟩ : ∃ P : ByteArray, Hid (sv l[k] = .string P ∧ P.size = l[k].length) := ⟨⟨l[k].toArray⟩, rfl, sv_size _⟩
          rw [hP.out.1] at hx
          have hPs := hP.out.2
          by_cases hm : most < (P.size : Int)
          · have e : l.all (fun p => decide ((p.length : Int) ≤ most)) = false := by
              rw [List.all_eq_false]
              exact ⟨l[k], List.getElem_mem hlt, by simp; omega⟩
            have HE := hid e
            clear hPs e
            go_wp2
            go_ret
            exact ⟨by rw [← hR.out, HE.out]; rfl, rfl⟩
          · have HN : Hid (∀ p ∈ l.take (k + 1), (p.length : Int) ≤ most) := fun p hp => by
              rw [List.take_add_one, List.getElem?_eq_getElem hlt] at hp
              rcases List.mem_append.1 hp with hp | hp
              · exact hH.out p hp
              · simp at hp
                subst hp
                omega
            clear hPs
            go_wp2
            exact ⟨⟨k + 1, by omega, by go_num, HN, (by first | rfl | trivial)⟩, by simp [intOf]; omega⟩
        · have b0 : ¬ (k : Int) < (l.length : Int) := by omega
          obtain rfl : k = l.length := by omega
          have e : l.all (fun p => decide ((p.length : Int) ≤ most)) = true := by
            rw [List.all_eq_true]
            intro p hp
            exact decide_eq_true (hH.out p (by rwa [List.take_length]))
          have HE := hid e
          clear e
          go_wp2
          go_ret
          exact ⟨by rw [← hR.out, HE.out]; rfl, rfl⟩
/-- numbers that rise, each a size -/
def rsB : Option Int → List Int → Bool
  | _, [] => true
  | p, n :: l => isSz n && (match p with
    | none => true
    | some q => decide (q < n)) && rsB (some n) l
def riB (l : List Int) (most : Int) : Bool := decide (1 ≤ (l.length : Int) ∧ (l.length : Int) ≤ most) && rsB none l
end Msg
end Go.Proofs.YtmhgdcfmfcjagaaGreatDoor

namespace Go.Proofs.YtmhgdcfmfcjagaaGreatDoor
open Go.RowKit Cod
namespace Msg

theorem below_drewM {B : Nat} {a w : World} (h : Below B a w) (n : Nat) : Below B a (w.drewN n) := ⟨h.os, h.tape, h.output, h.size, h.block⟩
set_option maxRecDepth 100000 in
set_option maxHeartbeats 2000000 in
theorem rises17_any (u : Value) (l : List Int) (most : Int) (hl : l.length ≤ maxLen) (w : World) (hs : SlcI w u l) :
    Calls Tryz.prog 67 #[u, .int .i64 most] w fun e w' => e = .returned (.bool (riB l most)) ∧ Below w.heap.size w w' := by
  obtain ⟨a, ca, rfl, ha⟩ := hs
  unfold maxLen at hl
  have Ha := hid ha
  clear ha
  by_cases h1 : (l.length : Int) < 1
  · rw [show riB l most = false from by rw [riB, decide_eq_false (by omega), Bool.false_and]]
    go_enter Tryz.func67, Tryz.ntmps67
    go_wp2
    go_ret
    exact ⟨rfl, Below.refl _ _⟩
  · by_cases h2 : most < (l.length : Int)
    · rw [show riB l most = false from by rw [riB, decide_eq_false (by omega), Bool.false_and]]
      go_enter Tryz.func67, Tryz.ntmps67
      go_wp2
      go_ret
      exact ⟨rfl, Below.refl _ _⟩
    · have hri : riB l most = rsB none l := by rw [riB, decide_eq_true (by omega), Bool.true_and]
      rw [hri]
      clear hri
      obtain ⟨R, hR⟩ : ∃ R, Hid (rsB none l = R) := ⟨_, rfl⟩
      rw [hR.out]
      go_enter Tryz.func67, Tryz.ntmps67
      go_wp2
      go_loopw [5] (fun i w' => ∃ k : Nat, k ≤ l.length ∧ i = .int .i64 k ∧ Hid (rsB none l = rsB (if k = 0 then none else l[k - 1]?) (l.drop k)) ∧ Hid (Below w.heap.size w w')) (fun i _ => l.length - (intOf i).toNat)
      case atStart => exact ⟨0, by omega, rfl, hid rfl, hid (Below.refl _ _)⟩
      case round =>
        obtain ⟨k, hk, rfl, hH, hB⟩ := hrel
        by_cases hlt : k < l.length
        · have b0 : (k : Int) < (l.length : Int) := by omega
          obtain ⟨x, rfl, xb, hx⟩ := Ha.out k l[k] (List.getElem?_eq_getElem hlt)
          rw [← hB.out.cell (p := x.add k) (by rw [add_block]; exact xb)] at hx
          have hstep : rsB (if k = 0 then none else l[k - 1]?) (l.drop k) = (isSz l[k] && (match (if k = 0 then none else l[k - 1]?) with
            | none => true
            | some q => decide (q < l[k])) && rsB (some l[k]) (l.drop (k + 1))) := by rw [List.drop_eq_getElem_cons hlt]; rfl
          have i1 := fun w => size17_any l[k] w
          have hH2 := hH.out
          rw [hstep] at hH2
          cases hz : isSz l[k] with
          | false =>
            rw [hz] at i1
            have HE : Hid (rsB none l = false) := by show _ = _; rw [hH2, hz, Bool.false_and, Bool.false_and]
            generalize l[k] = n at *
            clear hstep hH2 xb
            go_wp2_with (go_at_call 65; refine (i1 _).mono ?_; rintro e w' ⟨rfl, hw'⟩; rw [hw']; clear hw' w')
            go_quiet (fail)
            go_wp2
            go_ret
            exact ⟨by rw [← hR.out, HE.out]; rfl, below_drewM hB.out _⟩
          | true =>
            rw [hz] at i1
            rw [hz, Bool.true_and] at hH2
            by_cases h0 : k = 0
            · have b2 : decide (0 < k) = false := decide_eq_false (by omega)
              have HN : Hid (rsB none l = rsB (if k + 1 = 0 then none else l[k + 1 - 1]?) (l.drop (k + 1))) := by
                show _ = _
                rw [hH2, if_pos h0, if_neg (by omega), Nat.add_sub_cancel, List.getElem?_eq_getElem hlt]
                rfl
              generalize l[k] = n at *
              clear h0
              clear hstep hH2 xb
              go_wp2_with (go_at_call 65; refine (i1 _).mono ?_; rintro e w' ⟨rfl, hw'⟩; rw [hw']; clear hw' w')
              go_quiet (fail)
              go_wp2
              exact ⟨⟨k + 1, by omega, by go_num, HN, hid (below_drewM hB.out _)⟩, by simp [intOf]; omega⟩
            · have hk1 : k - 1 < l.length := by omega
              obtain ⟨x', hx', xb', hy⟩ := Ha.out (k - 1) l[k - 1] (List.getElem?_eq_getElem hk1)
              injection hx' with hx'
              subst hx'
              rw [← hB.out.cell (p := x.add (k - 1)) (by rw [add_block]; exact xb')] at hy
              have c1 : wrap64 ((k : Int) - 1) = ((k - 1 : Nat) : Int) := by unfold wrap64; omega
              have c2 : IntKind.i64.wrap ((k : Int) - 1) = ((k - 1 : Nat) : Int) := by rw [IntKind.wrap_i64]; omega
              have b2 : decide (0 < k) = true := decide_eq_true (by omega)
              have b3 : ((k - 1 : Nat) : Int) < (l.length : Int) := by omega
              rw [if_neg h0, List.getElem?_eq_getElem hk1] at hH2
              have hH2 : rsB none l = (decide (l[k - 1] < l[k]) && rsB (some l[k]) (l.drop (k + 1))) := hH2
              by_cases hr : l[k - 1] < l[k]
              · have HN : Hid (rsB none l = rsB (if k + 1 = 0 then none else l[k + 1 - 1]?) (l.drop (k + 1))) := by
                  show _ = _
                  rw [hH2, decide_eq_true hr, Bool.true_and, if_neg (by omega), Nat.add_sub_cancel, List.getElem?_eq_getElem hlt]
                have hr' : decide (l[k] ≤ l[k - 1]) = false := decide_eq_false (by omega)
                generalize l[k] = n at *
                generalize l[k - 1] = m at *
                clear hstep hH2 xb xb' hr
                generalize k - 1 = kk at *
                go_wp2_with (go_at_call 65; refine (i1 _).mono ?_; rintro e w' ⟨rfl, hw'⟩; rw [hw']; clear hw' w')
                go_quiet (fail)
                go_wp2
                exact ⟨⟨k + 1, by omega, by go_num, HN, hid (below_drewM hB.out _)⟩, by simp [intOf]; omega⟩
              · have HE : Hid (rsB none l = false) := by show _ = _; rw [hH2, decide_eq_false hr, Bool.false_and]
                have hr' : decide (l[k] ≤ l[k - 1]) = true := decide_eq_true (by omega)
                generalize l[k] = n at *
                generalize l[k - 1] = m at *
                clear hstep hH2 xb xb' hr
                generalize k - 1 = kk at *
                go_wp2_with (go_at_call 65; refine (i1 _).mono ?_; rintro e w' ⟨rfl, hw'⟩; rw [hw']; clear hw' w')
                go_quiet (fail)
                go_wp2
                go_ret
                exact ⟨by rw [← hR.out, HE.out]; rfl, below_drewM hB.out _⟩
        · have b0 : ¬ (k : Int) < (l.length : Int) := by omega
          obtain rfl : k = l.length := by omega
          have e : rsB none l = true := by rw [hH.out, List.drop_length]; rfl
          have HE := hid e
          clear e
          go_wp2
          go_ret
          exact ⟨by rw [← hR.out, HE.out]; rfl, hB.out⟩
/-- is something not nothing that the kind has not? -/
def spB (x : Ask) (wd : List UInt8) : Bool :=
  (!hasB wd 97 && !decide (x.a = 0)) || ((!hasB wd 98 && !decide (x.b = 0)) || ((!hasB wd 115 && !decide (x.size = 0)) || ((!hasB wd 101 && decide (0 < x.ent.length)) || ((!(hasB wd 105 || hasB wd 104) && decide (0 < x.list.length)) || (!hasB wd 103 && decide (0 < x.n))))))
end Msg
end Go.Proofs.YtmhgdcfmfcjagaaGreatDoor
