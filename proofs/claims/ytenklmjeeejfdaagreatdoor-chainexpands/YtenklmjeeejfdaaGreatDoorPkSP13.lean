import Derived.Test.YtenklmjeeejfdaaGreatDoorPkCP4
import Derived.Test.YtenklmjeeejfdaaGreatDoorPkO2
import Derived.Test.YtenklmjeeejfdaaGreatDoorPkI1
import Derived.Lib.TrailingZeros
import Derived.Test.YtenklmjeeejfdaaGreatDoorPkCM2
namespace Go.Proofs.YtenklmjeeejfdaaGreatDoor
open Go.RowKit Go.Shelf
attribute [local go_sem] Oper.semAt_some
end Go.Proofs.YtenklmjeeejfdaaGreatDoor

namespace Go.Proofs.YtenklmjeeejfdaaGreatDoor
open Go.RowKit Go.Shelf
attribute [local go_sem] Oper.semAt_some
end Go.Proofs.YtenklmjeeejfdaaGreatDoor

namespace Go.Proofs.YtenklmjeeejfdaaGreatDoor
open Go.RowKit Go.Shelf
attribute [local go_sem] Oper.semAt_some
end Go.Proofs.YtenklmjeeejfdaaGreatDoor

namespace Go.Proofs.YtenklmjeeejfdaaGreatDoor
open Go.RowKit Go.Shelf
attribute [local go_sem] Oper.semAt_some
end Go.Proofs.YtenklmjeeejfdaaGreatDoor

namespace Go.Proofs.YtenklmjeeejfdaaGreatDoor
open Go.RowKit Go.Shelf
def Rsg (l : List Int) : Prop := ∀ j x y, l[j]? = some x → l[j + 1]? = some y → x < y
end Go.Proofs.YtenklmjeeejfdaaGreatDoor

namespace Go.Proofs.YtenklmjeeejfdaaGreatDoor
open Go.RowKit Go.Shelf
theorem getD_at {l : List Int} {k : Nat} (h : k < l.length) : l.getD k 0 = l[k] := by simp [List.getD, h]
end Go.Proofs.YtenklmjeeejfdaaGreatDoor

namespace Go.Proofs.YtenklmjeeejfdaaGreatDoor
open Go.RowKit Go.Shelf
attribute [local go_sem] Oper.semAt_some
abbrev enN (s : Nat × Nat) : Array Value := #[.agg #[.int .i64 (s.1 : Int), .int .i64 (s.2 : Int)]]
end Go.Proofs.YtenklmjeeejfdaaGreatDoor

namespace Go.Proofs.YtenklmjeeejfdaaGreatDoor
open Go.RowKit Go.Shelf
attribute [local go_sem] Oper.semAt_some
end Go.Proofs.YtenklmjeeejfdaaGreatDoor

namespace Go.Proofs.YtenklmjeeejfdaaGreatDoor
open Go.RowKit Go.Shelf
def hsB8 (l : List (List UInt8)) : Bool := l.all (·.length == 32)
set_option maxRecDepth 100000 in
set_option maxHeartbeats 2000000 in
theorem areHashes8_is (l : List (List UInt8)) (q : Bool) (hq : hsB8 l = q) (a : Option Addr) (cap : Nat) (w : World) (hc : l.length ≤ 9223372036854775807) (hA : At w a l) :
    Calls Tryz.prog 107 #[.slice a l.length cap] w fun r w' => r = .returned (.bool q) ∧ w' = w := by
  have HQ := hid hq
  generalize hn : l.length = k at *
  have HA := hid hA
  clear hA hq
  go_enter Tryz.func107, Tryz.ntmps107
  go_wp2
  go_loopw [7] (fun i w' => ∃ j : Nat, j ≤ k ∧ i = .int .i64 (j : Int) ∧ Hid ((l.take j).all (·.length == 32) = true) ∧ w' = w) (fun i _ => k - (intOf i).toNat)
  case atStart => exact ⟨0, by omega, rfl, rfl, rfl⟩
  case round =>
    obtain ⟨j, hj, rfl, hall, rfl⟩ := hrel
    by_cases hjk : j < k
    · have b0 : (j : Int) < (k : Int) := by omega
      obtain ⟨y, rfl⟩ := HA.out.pos (by omega)
      obtain ⟨s, hs, hcell⟩ := HA.out.cell j (by omega)
      by_cases h32 : s.size = 32
      · have i2 : (s.size : Int) = 32 := by omega
        have e2 := hid (all_take l j (by omega) hall.out (by rw [← hs.out, data_length]; exact h32))
        clear HA hall hs
        go_wp2
        exact ⟨⟨j + 1, by omega, by go_num, e2, trivial⟩, by simp [intOf]; omega⟩
      · have i2 : ((s.size : Int) != 32) = true := by simp; omega
        have i3 : ((s.size : Int) == 32) = false := by simp; omega
        have e2 := all_not l j (by omega) (by rw [← hs.out, data_length]; exact h32)
        have e3 := hid (show q = false by rw [← HQ.out]; exact e2)
        clear HA hall hs e2
        go_wp2
        go_ret
        exact ⟨by rw [e3.out]; rfl, rfl⟩
    · obtain rfl : j = k := by omega
      have b0 : ¬ (j : Int) < (j : Int) := by omega
      rw [← hn, List.take_length] at hall
      have e3 := hid (show q = true by rw [← HQ.out]; exact hall.out)
      clear HA hall
      go_wp2
      go_ret
      exact ⟨by rw [e3.out]; rfl, rfl⟩
def hasI (b e x y : Int) : Bool := decide (b ≤ x ∧ x < y ∧ y ≤ e)
set_option maxRecDepth 100000 in
set_option maxHeartbeats 2000000 in
theorem has_is (b e x y : Int) (q : Bool) (hq : hasI b e x y = q) (w : World) : Calls Tryz.prog 130 #[sg b e, sg x y] w fun r w' => r = .returned (.bool q) ∧ Below w.heap.size w w' := by
  have S0 := SpI.new w b e
  have hb1 := (Below.refl _ (w.alloc (.cells #[.int .i64 b, .int .i64 e] 56))).alloc (Nat.le_refl _) (.cells #[.int .i64 x, .int .i64 y] 56)
  have S1 := S0.below hb1
  have S2 := SpI.new (w.alloc (.cells #[.int .i64 b, .int .i64 e] 56)) x y
  rw [size_alloc] at S2
  have hb := ((Below.refl _ w).alloc (Nat.le_refl _) (.cells #[.int .i64 b, .int .i64 e] 56)).alloc (by rw [size_alloc]; omega) (.cells #[.int .i64 x, .int .i64 y] 56)
  have c0 := S1.c0
  have c1 := S1.c1
  have d0 := S2.c0
  have d1 := S2.c1
  clear S0 S1 S2 hb1
  by_cases h1 : b ≤ x
  · by_cases h2 : x < y
    · by_cases h3 : y ≤ e
      · have er := hid (show q = true by rw [← hq]; simp [hasI, h1, h2, h3])
        clear hq
        go_enter Tryz.func130, Tryz.ntmps130
        go_wp2
        go_ret
        exact ⟨by rw [er.out]; rfl, hb⟩
      · have er := hid (show q = false by rw [← hq]; simp [hasI, h3])
        clear hq
        go_enter Tryz.func130, Tryz.ntmps130
        go_wp2
        go_ret
        exact ⟨by rw [er.out]; rfl, hb⟩
    · have er := hid (show q = false by rw [← hq]; simp [hasI, h2])
      clear hq
      go_enter Tryz.func130, Tryz.ntmps130
      go_wp2
      go_ret
      exact ⟨by rw [er.out]; rfl, hb⟩
  · have er := hid (show q = false by rw [← hq]; simp [hasI, h1])
    clear hq
    go_enter Tryz.func130, Tryz.ntmps130
    go_wp2
    go_ret
    exact ⟨by rw [er.out]; rfl, hb⟩
abbrev Sub := (Int × Int) × ByteArray
def sbc (l : List Sub) : List Value := l.flatMap fun q => [.int .i64 q.1.1, .int .i64 q.1.2, .string q.2]
theorem sbc_len (l : List Sub) : (sbc l).length = l.length * 3 := by
  induction l with
  | nil => rfl
  | cons q l ih => rw [sbc, List.flatMap_cons, List.length_append, ← sbc, ih]; simp; omega
theorem sbc_append (l m : List Sub) : sbc (l ++ m) = sbc l ++ sbc m := List.flatMap_append
theorem sbc_get : ∀ {l : List Sub} {j : Nat} {q : Sub}, l[j]? = some q → (sbc l)[j * 3]? = some (.int .i64 q.1.1) ∧ (sbc l)[j * 3 + 1]? = some (.int .i64 q.1.2) ∧ (sbc l)[j * 3 + 2]? = some (.string q.2)
  | [], j, q, h => by simp at h
  | a :: l, 0, q, h => by
    obtain rfl : a = q := by simpa using h
    exact ⟨rfl, rfl, rfl⟩
  | a :: l, j + 1, q, h => by
    have := sbc_get (l := l) (j := j) (by simpa using h)
    rw [show (j + 1) * 3 = j * 3 + 3 from by omega]
    exact this
abbrev OwnS3 (w : World) (v : Value) (l : List Sub) : Prop := OwnM 3 w v l.length (sbc l)
theorem OwnS3.at {w : World} {v : Value} {l : List Sub} (h : OwnS3 w v l) {j : Nat} {q : Sub} (hq : l[j]? = some q) : ∃ g cap, v = .slice (some ⟨g, 0, none⟩) l.length cap ∧ w.cell? ⟨g, j * 3, none⟩ = some (.int .i64 q.1.1) ∧ w.cell? ⟨g, j * 3 + 1, none⟩ = some (.int .i64 q.1.2) ∧ w.cell? ⟨g, j * 3 + 2, none⟩ = some (.string q.2) := by
  rcases h with ⟨_, h1, _⟩ | ⟨g, cap, rfl, _, _, _, h4, _, _⟩
  · have := (List.getElem?_eq_some_iff.1 hq).1; omega
  · obtain ⟨a, b, c⟩ := sbc_get hq
    have a' := h4 _ _ a
    have b' := h4 _ _ b
    have c' := h4 _ _ c
    rw [Nat.zero_add] at a' b' c'
    exact ⟨g, cap, rfl, a', b', c'⟩
theorem infoSb : (Tryz.prog.info? 169).map (fun i => (i.zero, i.size, i.bytes)) = some (some (.agg #[.int .i64 0, .int .i64 0, .string ⟨#[]⟩]), 3, 32) := by kernel_rfl
theorem append_sub (w : World) (v : Value) (l : List Sub) (x y : Int) (s : ByteArray) (h : OwnS3 w v l) (hl : l.length ≤ 1099511627776) :
    ∃ v' w', (Builtin.append_ #[157, 157] 157 #[v, .slice (some ⟨w.heap.size, 0, none⟩) 1 1]).run Tryz.prog (w.alloc (.cells #[.int .i64 x, .int .i64 y, .string s] 169)) = .ok v' w' ∧ OwnS3 w' v' (l ++ [((x, y), s)]) ∧ Grow w w' v v' := by
  obtain ⟨v', w', h1, h2, h3⟩ := append_oneL 157 169 (.agg #[.int .i64 0, .int .i64 0, .string ⟨#[]⟩]) 32 Tryz.underlying157 infoSb rfl w v l.length (sbc l) [.int .i64 x, .int .i64 y, .string s] rfl (fun u hu => by
    simp only [List.mem_cons, List.not_mem_nil, or_false] at hu
    rcases hu with rfl | rfl | rfl <;> rfl) h (by omega) (by rw [maxLen]; omega)
  refine ⟨v', w', h1, ?_, h3⟩
  unfold OwnS3
  rw [sbc_append, List.length_append]; exact h2
end Go.Proofs.YtenklmjeeejfdaaGreatDoor

namespace Go.Proofs.YtenklmjeeejfdaaGreatDoor
open Go.RowKit Go.Shelf
namespace Chn
set_option maxRecDepth 100000 in
set_option maxHeartbeats 1000000 in
theorem betweenC (m n : Nat) (h1 : 1 ≤ m) (h2 : m ≤ n) (h3 : n ≤ 1099511627776) (w : World) : Calls Tryz.prog 62 #[.int .i64 (m : Int), .int .i64 (n : Int)] w fun r w' => Below w.heap.size w w' ∧ ∃ v, r = .returned v ∧ OwnP w' v (prf m n) ∧ ∀ k, v.ownBlock = some k → w.heap.size ≤ k := by
  have i1 := proof8_any (m : Int) (n : Int) w
  have e1 : proofE (m : Int) (n : Int) = 0 := by unfold proofE; rw [if_pos (by omega)]
  have e2 : proofL (m : Int) (n : Int) = prf m n := by unfold proofL prf; rw [if_pos e1, Int.toNat_natCast, Int.toNat_natCast]
  rw [e1, e2] at i1
  go_enter Tryz.func62, Tryz.ntmps62
  go_wp2_with (go_at_call 86; refine i1.mono ?_; rintro r w1 ⟨b1, v, rfl, O1, hv⟩; have B1 := hid b1; have HO := hid O1; have HV := hid hv; clear b1 O1 hv)
  go_ret
  exact ⟨B1.out, v, rfl, HO.out, HV.out⟩
def upTo (cs : List Int) (k : Nat) : Bool := (List.range k).all fun i => decide (cs.getD i 0 < cs.getD (i + 1) 0)
def mayB (cs : List Int) : Bool := decide (1 ≤ cs.length ∧ cs.length ≤ 64 ∧ 1 ≤ cs.getD 0 0 ∧ cs.getD (cs.length - 1) 0 ≤ 1099511627776) && upTo cs (cs.length - 1)
theorem upTo_next {cs : List Int} {k : Nat} : upTo cs (k + 1) = (upTo cs k && decide (cs.getD k 0 < cs.getD (k + 1) 0)) := by
  unfold upTo
  rw [List.range_succ, List.all_append]
  simp
theorem upTo_le {cs : List Int} {k m : Nat} (h : upTo cs m = true) (hk : k < m) : cs.getD k 0 < cs.getD (k + 1) 0 := by
  unfold upTo at h
  rw [List.all_eq_true] at h
  exact of_decide_eq_true (h k (List.mem_range.2 hk))
theorem upTo_not {cs : List Int} {k m : Nat} (hk : k < m) (h : ¬ cs.getD k 0 < cs.getD (k + 1) 0) : upTo cs m = false := by
  cases e : upTo cs m with
  | false => rfl
  | true => exact absurd (upTo_le e hk) h
theorem getI {cs : List Int} {i : Nat} (h : i < cs.length) : cs[i]? = some (cs.getD i 0) := by rw [List.getD_eq_getElem?_getD, List.getElem?_eq_getElem h]; rfl
theorem mayB_hds {cs : List Int} (h : mayB cs = true) : ∃ hs, cs = ix hs ∧ Hds hs := by
  unfold mayB at h
  rw [Bool.and_eq_true, decide_eq_true_eq] at h
  obtain ⟨⟨h1, h2, h3, h4⟩, h5⟩ := h
  have up : ∀ (d i : Nat), i + d < cs.length → cs.getD i 0 ≤ cs.getD (i + d) 0 := fun d => by
    induction d with
    | zero => intro i _; exact Int.le_refl _
    | succ d ih =>
      intro i hi
      have a := ih i (by omega)
      have b := upTo_le h5 (k := i + d) (by omega)
      rw [show i + (d + 1) = i + d + 1 by omega]
      omega
  have lo : ∀ i, i < cs.length → 1 ≤ cs.getD i 0 ∧ cs.getD i 0 ≤ 1099511627776 := fun i hi => by
    have a := up i 0 (by omega)
    have b := up (cs.length - 1 - i) i (by omega)
    rw [Nat.zero_add] at a
    rw [show i + (cs.length - 1 - i) = cs.length - 1 by omega] at b
    omega
  have hx : cs = ix (cs.map Int.toNat) := by
    refine List.ext_getElem? fun i => ?_
    unfold ix
    rw [List.map_map, List.getElem?_map]
    by_cases hi : i < cs.length
    · have := lo i hi
      rw [getI hi]
      show some _ = some (((cs.getD i 0).toNat : Nat) : Int)
      rw [Int.toNat_of_nonneg (by omega)]
    · rw [List.getElem?_eq_none (by omega)]; rfl
  have hg : ∀ (i a : Nat), (cs.map Int.toNat)[i]? = some a → i < cs.length ∧ (a : Int) = cs.getD i 0 := fun i a ha => by
    rw [List.getElem?_map] at ha
    by_cases hi : i < cs.length
    · have := lo i hi
      rw [getI hi] at ha
      have : (cs.getD i 0).toNat = a := Option.some.inj ha
      exact ⟨hi, by omega⟩
    · rw [List.getElem?_eq_none (by omega)] at ha; cases ha
  refine ⟨cs.map Int.toNat, hx, ⟨by simpa using h1, by simpa using h2, fun i a b ha hb => ?_, fun i a ha => ?_⟩⟩
  · obtain ⟨q1, q2⟩ := hg i a ha
    obtain ⟨q3, q4⟩ := hg (i + 1) b hb
    have := upTo_le h5 (k := i) (by omega)
    omega
  · obtain ⟨q1, q2⟩ := hg i a ha
    have := lo i q1
    omega
theorem hds_mayB {hs : List Nat} (h : Hds hs) : mayB (ix hs) = true := by
  have hl : (ix hs).length = hs.length := by simp [ix]
  have hd : ∀ i, i < hs.length → (ix hs).getD i 0 = (hs.getD i 0 : Int) := fun i hi => by
    have e1 := getI (cs := ix hs) (i := i) (by omega)
    have e2 := getD_at hi
    unfold ix at e1
    rw [List.getElem?_map, e2] at e1
    exact (Option.some.inj e1).symm
  unfold mayB
  rw [Bool.and_eq_true, decide_eq_true_eq, hl]
  refine ⟨⟨h.ne, h.le, ?_, ?_⟩, ?_⟩
  · rw [hd 0 (by have := h.ne; omega)]; have := h.lo 0 _ (getD_at (by have := h.ne; omega)); omega
  · rw [hd _ (by have := h.ne; omega)]; have := h.lo (hs.length - 1) _ (getD_at (by have := h.ne; omega)); omega
  · unfold upTo
    rw [List.all_eq_true]
    intro i hi
    rw [List.mem_range] at hi
    refine decide_eq_true ?_
    rw [hd i (by omega), hd (i + 1) (by omega)]
    have := h.pair (i := i) (by omega)
    omega
set_option maxRecDepth 100000 in
set_option maxHeartbeats 2000000 in
theorem mayBe_any (cs : List Int) (a : Option Addr) (cap : Nat) (w : World) (hc : cs.length ≤ 9223372036854775807) (hA : AtI w a cs) :
    Calls Tryz.prog 41 #[.slice a cs.length cap] w fun r w' => r = .returned (.bool (mayB cs)) ∧ Below w.heap.size w w' := by
  obtain ⟨B, hB⟩ : ∃ B, Hid (mayB cs = B) := ⟨_, rfl⟩
  rw [hB.out]
  obtain ⟨m, hm⟩ : ∃ m, cs.length = m := ⟨_, rfl⟩
  have HM := hid hm
  rw [hm] at hc ⊢
  have bad : Hid (¬ (1 ≤ m ∧ m ≤ 64 ∧ 1 ≤ cs.getD 0 0 ∧ cs.getD (m - 1) 0 ≤ 1099511627776) → B = false) := fun hn => by
    rw [← hB.out]
    unfold mayB
    rw [HM.out, decide_eq_false hn, Bool.false_and]
  by_cases h1 : m = 0
  · have e := hid (bad.out (by omega))
    subst h1
    clear hA hm bad
    go_enter Tryz.func41, Tryz.ntmps41
    go_wp2
    go_ret
    exact ⟨by rw [e.out]; rfl, Below.refl _ _⟩
  · obtain ⟨x, rfl⟩ := hA.pos (by omega)
    have q1 : ¬ (m : Int) = 0 := by omega
    have q0 : (0 : Int) < (m : Int) := by omega
    by_cases h2 : 64 < m
    · have e := hid (bad.out (by omega))
      have q2 : (64 : Int) < (m : Int) := by omega
      clear hA hm bad
      go_enter Tryz.func41, Tryz.ntmps41
      go_wp2
      go_ret
      exact ⟨by rw [e.out]; rfl, Below.refl _ _⟩
    · have q2 : ¬ (64 : Int) < (m : Int) := by omega
      have c0 : w.cell? x = some (.int .i64 (cs.getD 0 0)) := by
        obtain ⟨y, hy, _, hc0⟩ := hA 0 _ (getI (by omega))
        obtain rfl := Option.some.inj hy
        exact hc0
      have c0' : w.cell? (x.add 0) = some (.int .i64 (cs.getD 0 0)) := c0
      have cL : w.cell? (x.add (m - 1)) = some (.int .i64 (cs.getD (m - 1) 0)) := by
        obtain ⟨y, hy, _, hc0⟩ := hA (m - 1) _ (getI (by omega))
        obtain rfl := Option.some.inj hy
        exact hc0
      have HA := hid hA
      have w1 : IntKind.i64.wrap ((m : Int) - 1) = (m : Int) - 1 := by rw [IntKind.wrap_i64]; omega
      have w2 : ((m : Int) - 1).toNat = m - 1 := by omega
      have w3 : (0 : Int) ≤ (m : Int) - 1 := by omega
      have w4 : (m : Int) - 1 < (m : Int) := by omega
      by_cases h3 : cs.getD 0 0 < 1
      · have e := hid (bad.out (by omega))
        clear hA hm bad HA
        generalize cs.getD 0 0 = z at *
        go_enter Tryz.func41, Tryz.ntmps41
        go_wp2
        go_ret
        exact ⟨by rw [e.out]; rfl, Below.refl _ _⟩
      · by_cases h4 : 1099511627776 < cs.getD (m - 1) 0
        · have e := hid (bad.out (by omega))
          clear hA hm bad HA
          generalize cs.getD 0 0 = z at *
          generalize cs.getD (m - 1) 0 = y at *
          go_enter Tryz.func41, Tryz.ntmps41
          go_wp2
          go_ret
          exact ⟨by rw [e.out]; rfl, Below.refl _ _⟩
        · have eB : Hid (B = upTo cs (m - 1)) := by
            unfold Hid
            rw [← hB.out]
            unfold mayB
            rw [HM.out, decide_eq_true (by omega), Bool.true_and]
          have BM := hid bad
          clear hA hm bad hB
          obtain ⟨z, hz⟩ : ∃ z, cs.getD 0 0 = z := ⟨_, rfl⟩
          obtain ⟨y, hy⟩ : ∃ y, cs.getD (m - 1) 0 = y := ⟨_, rfl⟩
          rw [hz] at c0 c0' h3
          rw [hy] at cL h4
          clear hz hy BM
          go_enter Tryz.func41, Tryz.ntmps41
          go_wp2
          clear c0 c0' cL
          go_loopw [3, 30] (fun _ i w' => ∃ j : Nat, j ≤ m - 1 ∧ i = .int .i64 (j : Int) ∧ Hid (upTo cs j = true) ∧ Hid (Below w.heap.size w w')) (fun _ i _ => m - (intOf i).toNat)
          case atStart => exact ⟨0, by omega, rfl, rfl, Below.refl _ _⟩
          case round =>
            obtain ⟨j, hj, rfl, hup, hbw⟩ := hrel
            by_cases hjm : j < m - 1
            · have b0 : (j : Int) < (m : Int) - 1 := by omega
              have d0 : wr.cell? (x.add j) = some (.int .i64 (cs.getD j 0)) := by
                obtain ⟨y, hy, _, hc0⟩   := (HA.out.below hbw.out (Nat.le_refl _)) j _ (getI (by rw [HM.out]; omega))
                obtain rfl := Option.some.inj hy
                exact hc0
              have d1 : wr.cell? (x.add (j + 1)) = some (.int .i64 (cs.getD (j + 1) 0)) := by
                obtain ⟨y, hy, _, hc0⟩ := (HA.out.below hbw.out (Nat.le_refl _)) (j + 1) _ (getI (by rw [HM.out]; omega))
                obtain rfl := Option.some.inj hy
                exact hc0
              have d2 : wr.cell? ⟨x.block, x.off + (j + 1), none⟩ = some (.int .i64 (cs.getD (j + 1) 0)) := by rw [← d1]; simp [Addr.add]
              have v1 : IntKind.i64.wrap ((j : Int) + 1) = (j : Int) + 1 := by rw [IntKind.wrap_i64]; omega
              have v2 : ((j : Int) + 1).toNat = j + 1 := by omega
              have v3 : (0 : Int) ≤ (j : Int) + 1 := by omega
              have v4 : (j : Int) + 1 < (m : Int) := by omega
              have v5 : (j : Int) < (m : Int) := by omega
              have v6 : (0 : Int) ≤ (j : Int) := by omega
              by_cases hlt : cs.getD j 0 < cs.getD (j + 1) 0
              · have e2 : Hid (upTo cs (j + 1) = true) := by unfold Hid; rw [upTo_next, hup.out, decide_eq_true hlt]; rfl
                have hge : ¬ cs.getD (j + 1) 0 ≤ cs.getD j 0 := by omega
                generalize cs.getD j 0 = p at *
                generalize cs.getD (j + 1) 0 = q at *
                clear hup
                go_wp2
                go_quiet (fail)
                go_wp2
                exact ⟨⟨j + 1, by omega, by go_num, e2, (by exact ⟨hbw.out.os, hbw.out.tape, hbw.out.output, hbw.out.size, hbw.out.block⟩)⟩, by simp [intOf]; omega⟩
              · have e3 : Hid (B = false) := by unfold Hid; rw [eB.out]; exact upTo_not hjm hlt
                have hge : cs.getD (j + 1) 0 ≤ cs.getD j 0 := by omega
                generalize cs.getD j 0 = p at *
                generalize cs.getD (j + 1) 0 = q at *
                clear hup
                go_wp2
                go_quiet (fail)
                go_wp2
                go_ret
                exact ⟨by rw [e3.out]; rfl, (by exact ⟨hbw.out.os, hbw.out.tape, hbw.out.output, hbw.out.size, hbw.out.block⟩)⟩
            · obtain rfl : j = m - 1 := by omega
              have b0 : ¬ ((m - 1 : Nat) : Int) < (m : Int) - 1 := by omega
              have e3 : Hid (B = true) := by unfold Hid; rw [eB.out]; exact hup.out
              clear hup
              go_wp2
              go_ret
              exact ⟨by rw [e3.out]; rfl, hbw.out⟩
set_option maxRecDepth 100000 in
set_option maxHeartbeats 2000000 in
theorem areHashes13_is (l : List (List UInt8)) (q : Bool) (hq : hsB8 l = q) (a : Option Addr) (cap : Nat) (w : World) (hc : l.length ≤ 9223372036854775807) (hA : At w a l) :
    Calls Tryz.prog 45 #[.slice a l.length cap] w fun r w' => r = .returned (.bool q) ∧ w' = w := by
  have HQ := hid hq
  generalize hn : l.length = k at *
  have HA := hid hA
  clear hA hq
  go_enter Tryz.func45, Tryz.ntmps45
  go_wp2
  go_loopw [7] (fun i w' => ∃ j : Nat, j ≤ k ∧ i = .int .i64 (j : Int) ∧ Hid ((l.take j).all (·.length == 32) = true) ∧ w' = w) (fun i _ => k - (intOf i).toNat)
  case atStart => exact ⟨0, by omega, rfl, rfl, rfl⟩
  case round =>
    obtain ⟨j, hj, rfl, hall, rfl⟩ := hrel
    by_cases hjk : j < k
    · have b0 : (j : Int) < (k : Int) := by omega
      obtain ⟨y, rfl⟩ := HA.out.pos (by omega)
      obtain ⟨s, hs, hcell⟩ := HA.out.cell j (by omega)
      by_cases h32 : s.size = 32
      · have i2 : (s.size : Int) = 32 := by omega
        have e2 := hid (all_take l j (by omega) hall.out (by rw [← hs.out, data_length]; exact h32))
        clear HA hall hs
        go_wp2
        exact ⟨⟨j + 1, by omega, by go_num, e2, trivial⟩, by simp [intOf]; omega⟩
      · have i2 : ((s.size : Int) != 32) = true := by simp; omega
        have i3 : ((s.size : Int) == 32) = false := by simp; omega
        have e2 := all_not l j (by omega) (by rw [← hs.out, data_length]; exact h32)
        have e3 := hid (show q = false by rw [← HQ.out]; exact e2)
        clear HA hall hs e2
        go_wp2
        go_ret
        exact ⟨by rw [e3.out]; rfl, rfl⟩
    · obtain rfl : j = k := by omega
      have b0 : ¬ (j : Int) < (j : Int) := by omega
      rw [← hn, List.take_length] at hall
      have e3 := hid (show q = true by rw [← HQ.out]; exact hall.out)
      clear HA hall
      go_wp2
      go_ret
      exact ⟨by rw [e3.out]; rfl, rfl⟩
end Chn
end Go.Proofs.YtenklmjeeejfdaaGreatDoor

namespace Go.Proofs.YtenklmjeeejfdaaGreatDoor
open Go.RowKit Go.Shelf
namespace Chn
structure Tv (w : World) (b : Nat) (v : Value) (K : List (Nat × Nat)) : Prop where
  own : OwnP w v K
  mp : ∃ f, Mc w b f ∧ ∀ s j, f s = some j ↔ K[j]? = some s
  lo : ∀ s ∈ K, s.1 < s.2 ∧ s.2 ≤ 1099511627776
  vb : v.ownBlock ≠ some b
theorem Tv.below {w w' : World} {b : Nat} {v : Value} {K : List (Nat × Nat)} (h : Tv w b v K) (hk : Below w.heap.size w w') : Tv w' b v K := by
  obtain ⟨f, hf, hg⟩ := h.mp
  exact ⟨h.own.below hk, ⟨f, hf.below hk hf.lt, hg⟩, h.lo, h.vb⟩
theorem Tv.lt {w : World} {b : Nat} {v : Value} {K : List (Nat × Nat)} (h : Tv w b v K) : b < w.heap.size := by
  obtain ⟨f, hf, _⟩ := h.mp
  exact hf.lt
theorem Td.tv {w : World} {q b : Nat} {v : Value} {K : List (Nat × Nat)} (h : Td w q b v K) : Tv w b v K := ⟨h.own, h.mp, h.lo, h.vb⟩
structure TI (w w' : World) (r q b : Nat) (v : Value) (K : List (Nat × Nat)) : Prop where
  td : Td w' q b v K
  res : w'.heap[r]? = some (.cells #[.slice none 0 0, .map none] 78 (0, 0))
  bel : Below w.heap.size w w'
  rq : r ≠ q
  rb : r ≠ b
  rv : v.ownBlock ≠ some r
  ge : ∀ k, Td.F q b v k → w.heap.size ≤ k
theorem TI.below {w w' w2 : World} {r q b : Nat} {v : Value} {K : List (Nat × Nat)} (h : TI w w' r q b v K) (hb : Below w'.heap.size w' w2) : TI w w2 r q b v K :=
  ⟨h.td.below hb, (hb.block r (lt_of_heap h.res)).trans h.res, h.bel.trans (hb.mono h.bel.size), h.rq, h.rb, h.rv, h.ge⟩
theorem TI.add {w w' w2 : World} {r q b : Nat} {v v' : Value} {K K' : List (Nat × Nat)} (h : TI w w' r q b v K) (hd : Td w2 q b v' K') (hk : Keep (Td.F q b v) w' w2) (ha : ∀ k, v'.ownBlock = some k → v.ownBlock = some k ∨ w'.heap.size ≤ k) : TI w w2 r q b v' K' := by
  have hr := lt_of_heap h.res
  refine ⟨hd, (hk.block r hr ?_).trans h.res, ?_, h.rq, h.rb, fun e => ?_, ?_⟩
  · rintro (e | e | e)
    · exact h.rq e
    · exact h.rb e
    · exact h.rv e
  · exact h.bel.trans (keep_belowC hk h.bel.size h.ge)
  · rcases ha r e with q | q
    · exact h.rv q
    · omega
  · rintro k (e | e | e)
    · exact h.ge k (.inl e)
    · exact h.ge k (.inr (.inl e))
    · rcases ha k e with q | q
      · exact h.ge k (.inr (.inr q))
      · have := h.bel.size; omega
structure Bes (w' : World) (q b : Nat) (v vL : Value) (L : List (Nat × Nat)) : Prop where
  own : OwnP w' vL L
  off : ∀ k, vL.ownBlock = some k → ¬ Td.F q b v k
theorem Bes.below {w' w2 : World} {q b : Nat} {v vL : Value} {L : List (Nat × Nat)} (h : Bes w' q b v vL L) (hb : Below w'.heap.size w' w2) : Bes w2 q b v vL L := ⟨h.own.below hb, h.off⟩
theorem Bes.add {w' w2 : World} {q b : Nat} {v v' vL : Value} {L : List (Nat × Nat)} (h : Bes w' q b v vL L) (hk : Keep (Td.F q b v) w' w2) (ha : ∀ k, v'.ownBlock = some k → v.ownBlock = some k ∨ w'.heap.size ≤ k) : Bes w2 q b v' vL L := by
  refine ⟨h.own.keep hk h.off, fun k hk' => ?_⟩
  have hl := h.own.lt k hk'
  rintro (e | e | e)
  · exact h.off k hk' (.inl e)
  · exact h.off k hk' (.inr (.inl e))
  · rcases ha k e with q | q
    · exact h.off k hk' (.inr (.inr q))
    · omega
theorem make_places (w : World) : (Instr.makeMap 76 none).run Tryz.prog w = .ok (.map (some w.heap.size)) (w.alloc (.map #[] 0)) := by
  simp [Instr.makeMap]
theorem sizeTd (a b : Value) : (Tryz.prog.info? 78).map (·.size) = some #[a, b].size := by kernel_rfl
theorem TI.start (w : World) : TI w (((w.alloc (.cells #[.slice none 0 0, .map none] 78)).alloc (.map #[] 0)).alloc (.cells #[.slice none 0 0, .map (some (w.heap.size + 1))] 78)) w.heap.size (w.heap.size + 1 + 1) (w.heap.size + 1) (.slice none 0 0) [] := by
  obtain ⟨w1, h1⟩ : ∃ w1, w.alloc (.cells #[.slice none 0 0, .map none] 78) = w1 := ⟨_, rfl⟩
  have z1 : w1.heap.size = w.heap.size + 1 := by rw [← h1]; simp
  have r1 : w1.heap[w.heap.size]? = some (.cells #[.slice none 0 0, .map none] 78 (0, 0)) := by rw [← h1]; exact heap_alloc_new w _
  have b1 : Below w.heap.size w w1 := by rw [← h1]; exact (Below.refl _ _).alloc (Nat.le_refl _) _
  rw [h1]
  obtain ⟨w2, h2⟩ : ∃ w2, w1.alloc (.map #[] 0) = w2 := ⟨_, rfl⟩
  have z2 : w2.heap.size = w.heap.size + 1 + 1 := by rw [← h2]; simp [z1]
  have m2 : Mc w2 (w.heap.size + 1) (fun _ => none) := by rw [← h2, ← z1]; exact Mc.new w1
  have b2 : Below w1.heap.size w1 w2 := by rw [← h2]; exact (Below.refl _ _).alloc (Nat.le_refl _) _
  rw [h2]
  have b3 : Below w2.heap.size w2 (w2.alloc (.cells #[.slice none 0 0, .map (some (w.heap.size + 1))] 78)) := (Below.refl _ _).alloc (Nat.le_refl _) _
  have h3 := heap_alloc_at w2 (.cells #[.slice none 0 0, .map (some (w.heap.size + 1))] 78) (w.heap.size + 1 + 1) z2
  refine ⟨⟨?_, ?_, frozen_of_row _ _ _ _ _ h3, OwnM.nil 2 _, ⟨_, m2.below b3 (by omega), fun s j => ⟨(fun e => by cases e), (fun e => by simp at e)⟩⟩, (fun s hs => by cases hs), by omega, by simp [Value.ownBlock], by simp [Value.ownBlock], lt_of_heap h3⟩, ?_, ?_, by omega, by omega, by simp [Value.ownBlock], ?_⟩
  · rw [cell_of_row _ _ _ _ _ _ h3]; rfl
  · rw [cell_of_row _ _ _ _ _ _ h3]; rfl
  · exact (b3.block _ (by omega)).trans ((b2.block _ (by omega)).trans r1)
  · exact (b1.trans (b2.mono (by omega))).trans (b3.mono (by omega))
  · rintro k (e | e | e)
    · omega
    · omega
    · cases e
theorem ownP_atC {w : World} {a : Option Addr} {c n : Nat} {l : List (Nat × Nat)} (h : OwnP w (.slice a n c) l) {j : Nat} {s : Nat × Nat} (hj : l[j]? = some s) : ∃ g, a = some ⟨g, 0, none⟩ ∧ g < w.heap.size ∧ w.cell? ⟨g, j * 2, none⟩ = some (.int .i64 (s.1 : Int)) ∧ w.cell? ⟨g, j * 2 + 1, none⟩ = some (.int .i64 (s.2 : Int)) := by
  obtain ⟨g, cap, e, c0, hg⟩ := h.cell (prs_get hj).1
  obtain ⟨g', cap', e', c1, _⟩ := h.cell (prs_get hj).2
  injection e with e
  injection e' with e'
  rw [e] at e'
  injection e' with e'
  injection e' with e'
  subst e'
  exact ⟨g, e, hg, c0, c1⟩
theorem ix_at {hs : List Nat} {i : Nat} (h : i < hs.length) : (ix hs)[i]? = some (hs.getD i 0 : Int) := by
  unfold ix
  rw [List.getElem?_map, getD_at h]
  rfl
set_option maxRecDepth 100000 in
set_option maxHeartbeats 2000000 in
theorem toldOf_any (hs : List Nat) (H : Hds hs) (a : Option Addr) (cap : Nat) (w : World) (hA : AtI w a (ix hs)) :
    Calls Tryz.prog 42 #[.slice a hs.length cap] w fun r w' => ∃ v b, r = .returned (.agg #[v, .map (some b)]) ∧ Tv w' b v (told hs) ∧ w.heap.size ≤ b ∧ (∀ k, v.ownBlock = some k → w.heap.size ≤ k) ∧ Below w.heap.size w w' := by
  have hmk := make_places
  have t0 := hid (TI.start w)
  have l1 := H.ne
  have l2 := H.le
  obtain ⟨x, rfl⟩ := hA.pos (by simp [ix]; omega)
  have HA := hid hA
  have HH := hid H
  obtain ⟨m, hm⟩ : ∃ m, hs.length = m := ⟨_, rfl⟩
  have HM := hid hm
  rw [hm] at l1 l2 ⊢
  have w1 : IntKind.i64.wrap ((m : Int) - 1) = (m : Int) - 1 := by rw [IntKind.wrap_i64]; omega
  have i0 := fun (i : Nat) (hi : i + 1 < hs.length) w' => betweenC (hs.getD i 0) (hs.getD (i + 1) 0) (H.pair hi).1 (by have := H.pair hi; omega) (H.pair hi).2.2 w'
  have HI := hid i0
  clear hA H hm i0
  go_enter Tryz.func42, Tryz.ntmps42
  go_wp2
  generalize hw0 : (((w.alloc (.cells #[.slice none 0 0, .map none] 78)).alloc (.map #[] 0)).alloc (.cells #[.slice none 0 0, .map (some (w.heap.size + 1))] 78)) = w0 at *
  clear hw0
  go_loopw [4, 6, 12] (fun _ _ i w' => ∃ (j : Nat) (v : Value), j ≤ m - 1 ∧ i = .int .i64 (j : Int) ∧ Hid (TI w w' w.heap.size (w.heap.size + 1 + 1) (w.heap.size + 1) v (tol hs j))) (fun _ _ i _ => m - (intOf i).toNat)
  case atStart => exact ⟨0, _, by omega, rfl, t0⟩
  case round =>
    clear t0
    obtain ⟨j, v, hj, rfl, hT⟩ := hrel
    by_cases hjm : j < m - 1
    · have b0 : (j : Int) < (m : Int) - 1 := by omega
      have hj1 : j + 1 < hs.length := by rw [HM.out]; omega
      have hj0 : j < hs.length := by omega
      have i1 := HI.out j hj1
      have pr := HH.out.pair hj1
      have A1 := HA.out.below hT.out.bel (Nat.le_refl _)
      have HAW := hid (fun w' (h : Below wr.heap.size wr w') => A1.below h (Nat.le_refl _))
      have fact : ∀ w', AtI w' (some x) (ix hs) → w'.cell? (x.add j) = some (.int .i64 (hs.getD j 0 : Int)) ∧ w'.cell? ⟨x.block, x.off + (j + 1), none⟩ = some (.int .i64 (hs.getD (j + 1) 0 : Int)) := fun w' h => by
        obtain ⟨y, hy, _, h0⟩ := h j _ (ix_at hj0)
        obtain ⟨z, hz, _, h1⟩ := h (j + 1) _ (ix_at hj1)
        obtain rfl := Option.some.inj hy
        obtain rfl := Option.some.inj hz
        refine ⟨h0, ?_⟩
        rw [← h1]
        simp [Addr.add]
      have x0 := fact _ A1
      have HF := hid fact
      have hL : Hid (tol hs (j + 1) = tells (tol hs j) (prf (hs.getD j 0) (hs.getD (j + 1) 0))) := rfl
      have hlo := prf_lo pr.1 (Nat.le_of_lt pr.2.1)
      have hln := prf_len pr.1 (Nat.le_of_lt pr.2.1) pr.2.2
      have hKl := hid (tol_few HH.out (i := j) hj0)
      have p3 := pr.2.2
      unfold Hid at HF
      generalize hs.getD j 0 = A at *
      generalize hs.getD (j + 1) 0 = B at *
      have HF := hid HF
      generalize prf A B = L at *
      have HL := hid hlo
      have v1 : IntKind.i64.wrap ((j : Int) + 1) = (j : Int) + 1 := by rw [IntKind.wrap_i64]; omega
      have v2 : ((j : Int) + 1).toNat = j + 1 := by omega
      have v3 : (0 : Int) ≤ (j : Int) + 1 := by omega
      have v4 : (j : Int) + 1 < (m : Int) := by omega
      have v5 : (j : Int) < (m : Int) := by omega
      have v6 : (0 : Int) ≤ (j : Int) := by omega
      clear fact A1 pr hlo
      go_wp2
      go_region_held3 (fun w' => w'.cell? (x.add j) = some (.int .i64 (A : Int)) ∧ w'.cell? ⟨x.block, x.off + (j + 1), none⟩ = some (.int .i64 (B : Int))) (first | exact x1 | exact x0) (first | (go_at_call 62; refine (i1 _).mono ?_; rintro r w1 ⟨b1, vL, rfl, OL, hvL⟩; have b1 := drewBelow8 b1; have x1 := HF.out _ (HAW.out _ b1); have T1 := hid (hT.out.below b1); have BS1 : Hid (Bes w1 (w.heap.size + 1 + 1) (w.heap.size + 1) v vL L) := ⟨OL, fun k hk hf => by have h1 : wr.heap.size ≤ k := hvL k hk; have := hT.out.td.Flt k hf; omega⟩; obtain ⟨la, lc, rfl, _, _⟩ := OL.shape; clear OL hvL b1))
      clear x0 x1 hT HAW HF
      obtain ⟨nl, hnl⟩ : ∃ nl, L.length = nl := ⟨_, rfl⟩
      have HNL := hid hnl
      rw [hnl] at hln
      unfold Hid at BS1
      rw [hnl] at BS1 ⊢
      have BS1 := hid BS1
      clear hnl
      go_wp2
      go_loopw [6, 26] (fun _ i w' => ∃ (k : Nat) (v : Value), k ≤ nl ∧ i = .int .i64 (k : Int) ∧ Hid (TI w w' w.heap.size (w.heap.size + 1 + 1) (w.heap.size + 1) v (tells (tol hs j) (L.take k))) ∧ Hid (Bes w' (w.heap.size + 1 + 1) (w.heap.size + 1) v (.slice la nl lc) L)) (fun _ i _ => nl - (intOf i).toNat)
      case atStart => exact ⟨0, v, by omega, rfl, T1, BS1⟩
      case round =>
        clear T1 BS1
        obtain ⟨k, v, hk, rfl, hT, hBs⟩ := hrel
        by_cases hkl : k < nl
        · have e0 : (k : Int) < (nl : Int) := by omega
          have e1 : (0 : Int) ≤ (k : Int) := by omega
          have hkL : k < L.length := by rw [HNL.out]; exact hkl
          obtain ⟨⟨sx, sy⟩, hs'⟩ : ∃ s, L[k]? = some s := ⟨_, List.getElem?_eq_getElem hkL⟩
          obtain ⟨g, rfl, hg, c0, c1⟩ := ownP_atC hBs.out.own hs'
          have hss := HL.out _ (List.mem_of_getElem? hs')
          have hsx : sx < sy := hss.1
          have hsy : sy ≤ 1099511627776 := by have : sy ≤ B := hss.2; omega
          have bA := (Below.refl wr.heap.size wr).alloc (Nat.le_refl _) (.cells #[.int .i64 (sx : Int), .int .i64 (sy : Int)] 56)
          have TA := hid (hT.out.below bA)
          have BA := hid (hBs.out.below bA)
          have SA := hid (SpI.new wr (sx : Int) (sy : Int))
          have nx := hid (tells_next (K := tol hs j) hs')
          have hKn : Hid ((tells (tol hs j) (L.take k)).length ≤ 1000000) := by
            have a1 := tells_len (L.take k) (tol hs j)
            have a2 : (L.take k).length ≤ nl := by rw [List.length_take, HNL.out]; omega
            have := hKl.out
            unfold Hid
            omega
          unfold Hid at TA hKn nx
          generalize tells (tol hs j) (L.take k) = K at *
          have i3 := canFold_any _ sx sy (Nat.le_refl _) hsx hsy _ TA.td
          have TA := hid TA
          clear hT hBs bA hss hs'
          cases hc : can K (sx, sy) with
          | true =>
            have nx : Hid (tells (tol hs j) (L.take (k + 1)) = K) := by unfold Hid; rw [nx]; unfold tell; rw [if_pos hc]
            rw [hc] at i3
            clear hc
            go_wp2_with (go_at_call 63; refine i3.mono ?_; rintro r w2 ⟨rfl, b2⟩; have T2 := hid (TA.out.below b2); have B2 := hid (BA.out.below b2); clear b2)
            exact ⟨⟨k + 1, v, by omega, by go_num, (by rw [nx.out]; exact T2), B2⟩, by simp [intOf]; omega⟩
          | false =>
            have nx : Hid (tells (tol hs j) (L.take (k + 1)) = K ++ [(sx, sy)]) := by unfold Hid; rw [nx]; unfold tell; rw [if_neg (by rw [hc]; simp)]
            have hnk : ¬ (sx, sy) ∈ K := fun e => by rw [can_mem hsx e] at hc; cases hc
            rw [hc] at i3
            clear hc
            go_wp2_with (first
              | (go_at_call 63; refine i3.mono ?_; rintro r w2 ⟨rfl, b2⟩; have T2 := hid (TA.out.below b2); have B2 := hid (BA.out.below b2); have s2 := SA.out.below b2; have s20 := s2.c0; have s21 := s2.c1; have i4 := addC_any T2.out.td hsx hsy hnk hKn; clear b2 s2)
              | (go_at_call 64; refine i4.mono ?_; rintro r w3 ⟨rfl, v', D3, K3, a3, _, _⟩; have T3 := hid (T2.out.add D3 K3 a3); have B3 := hid (B2.out.add K3 a3); clear D3 K3 a3 i4))
            exact ⟨⟨k + 1, v', by omega, by go_num, (by rw [nx.out]; exact T3), B3⟩, by simp [intOf]; omega⟩
        · obtain rfl : k = nl := by omega
          have e0 : ¬ (k : Int) < (k : Int) := by omega
          have T9 : Hid (TI w wr w.heap.size (w.heap.size + 1 + 1) (w.heap.size + 1) v (tol hs (j + 1))) := by
            have := hT.out
            rw [← HNL.out, List.take_length, ← hL.out] at this
            exact this
          clear hT hBs
          go_wp2
          exact ⟨⟨j + 1, v, by omega, by go_num, T9⟩, by simp [intOf]; omega⟩
    · obtain rfl : j = m - 1 := by omega
      have b0 : ¬ ((m - 1 : Nat) : Int) < (m : Int) - 1 := by omega
      have TD := hT.out.td
      have d0 := TD.c0
      have d1 := TD.c1
      have f0 := frozen_of_row _ _ 0 _ _ hT.out.res
      have f1 := frozen_of_row _ _ 1 _ _ hT.out.res
      have r0 : wr.cell? ⟨w.heap.size, 0, none⟩ = some (.slice none 0 0) := by rw [cell_of_row _ _ _ _ _ _ hT.out.res]; rfl
      have r1 : wr.cell? ⟨w.heap.size, 1, none⟩ = some (.map none) := by rw [cell_of_row _ _ _ _ _ _ hT.out.res]; rfl
      obtain ⟨va, vn, vc, rfl⟩ := ownM_sl TD.own
      clear TD
      go_wp2
      have R1 := heap_setCell_same _ w.heap.size 1 _ _ (.map (some (w.heap.size + 1))) (heap_setCell_same wr w.heap.size 0 _ _ (.slice va vn vc) hT.out.res)
      refine bodyPost_ret (v := .agg #[.slice va vn vc, .map (some (w.heap.size + 1))]) (results_cell_row rfl _ _ w.heap.size 78 _ (0, 0) _ rfl R1 Tryz.underlying78 rfl (sizeTd _ _)) rfl ⟨_, _, rfl, ?_, by omega, ?_, ?_⟩
      · have k1 : Keep (fun k => k = w.heap.size) wr ((wr.setCell ⟨w.heap.size, 0, none⟩ (.slice va vn vc)).setCell ⟨w.heap.size, 1, none⟩ (.map (some (w.heap.size + 1)))) := (Keep.ofSet (S := fun k => k = w.heap.size) wr w.heap.size 0 (.slice va vn vc) rfl).trans (Keep.ofSet (S := fun k => k = w.heap.size) _ w.heap.size 1 (.map (some (w.heap.size + 1))) rfl) fun _ _ e => e
        have t1 := (hT.out.td.keep k1 (by
          rintro k (e | e | e) e2
          · omega
          · omega
          · rw [e2] at e; exact hT.out.rv e)).tv
        have e1 : told hs = tol hs (m - 1) := by unfold told; rw [HM.out]
        rw [e1]
        exact t1
      · intro k hk
        exact hT.out.ge k (.inr (.inr hk))
      · exact Below.setCell (p := ⟨w.heap.size, 1, none⟩) (Below.setCell (p := ⟨w.heap.size, 0, none⟩) hT.out.bel (Nat.le_refl _) _) (Nat.le_refl _) _
end Chn
end Go.Proofs.YtenklmjeeejfdaaGreatDoor
