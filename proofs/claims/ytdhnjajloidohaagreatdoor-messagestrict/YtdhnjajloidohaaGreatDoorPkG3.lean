import Derived.Test.YtdhnjajloidohaaGreatDoorPkJ2
namespace Go.Proofs.YtdhnjajloidohaaGreatDoor
open Go.RowKit Cod

/-- a slice's row lies outside S -/
def Apart (v : Value) (S : Nat → Prop) : Prop := ∀ x n c, v = .slice (some x) n c → ¬ S x.block
theorem Slc.keep {S : Nat → Prop} {w w' : World} {v : Value} {ps : List (List UInt8)} (h : Slc w v ps) (hb : Keep S w w') (ha : Apart v S) : Slc w' v ps := by
  obtain ⟨a, cap, rfl, h⟩ := h
  refine ⟨a, cap, rfl, fun j p hp => ?_⟩
  obtain ⟨x, rfl, hx, hc⟩ := h j p hp
  refine ⟨x, rfl, Nat.lt_of_lt_of_le hx hb.size, ?_⟩
  rw [World.cell?_of_block (w := w) (by rw [add_block]; exact hb.block x.block hx (ha x _ _ rfl))]; exact hc
theorem SlcI.keep {S : Nat → Prop} {w w' : World} {v : Value} {ps : List Int} (h : SlcI w v ps) (hb : Keep S w w') (ha : Apart v S) : SlcI w' v ps := by
  obtain ⟨a, cap, rfl, h⟩ := h
  refine ⟨a, cap, rfl, fun j p hp => ?_⟩
  obtain ⟨x, rfl, hx, hc⟩ := h j p hp
  refine ⟨x, rfl, Nat.lt_of_lt_of_le hx hb.size, ?_⟩
  rw [World.cell?_of_block (w := w) (by rw [add_block]; exact hb.block x.block hx (ha x _ _ rfl))]; exact hc

def risesB (last : Int) : List Int → Bool
  | [] => true
  | n :: r => decide (0 ≤ n ∧ n ≤ 4611686018427387904 ∧ last < n) && risesB n r
def risingErr (l : List Int) : Int := if risesB (-1) l = true then 0 else 20

set_option maxRecDepth 100000 in
set_option maxHeartbeats 400000 in
theorem risingFault_any (v : Value) (l : List Int) (hb : ∀ c ∈ l, -9223372036854775808 ≤ c ∧ c ≤ 9223372036854775807) (hl : l.length ≤ maxLen) (w : World) (hs : SlcI w v l) :
    Calls Tryz.prog 195 #[v] w fun r w' => r = .returned (.int .i64 (risingErr l)) ∧ w' = w := by
  unfold maxLen at hl
  obtain ⟨a, cap, rfl, hs⟩ := hs
  have Hs := hid hs
  have Hb := hid hb
  clear hs hb
  obtain ⟨R, hR⟩ : ∃ R, Hid (risingErr l = R) := ⟨_, rfl⟩
  rw [hR.out]
  go_enter Tryz.func195, Tryz.ntmps195
  go_wp2
  go_loopw [3, 8] (fun la i w' => ∃ (k : Nat) (L : Int), k ≤ l.length ∧ i = .int .i64 k ∧ la = .int .i64 L ∧ Hid (risesB L (l.drop k) = risesB (-1) l) ∧ w' = w) (fun _ i _ => l.length - (intOf i).toNat)
  case atStart => exact ⟨0, -1, by omega, rfl, rfl, rfl, rfl⟩
  case round =>
    obtain ⟨k, L, hk, rfl, rfl, hr, rfl⟩ := hrel
    by_cases hlt : k < l.length
    · have hlt' : (k : Int) < (l.length : Int) := by omega
      obtain ⟨x, hx, hxb, hc⟩ := Hs.out k _ (List.getElem?_eq_getElem hlt)
      subst hx
      obtain ⟨h1, h2⟩ := Hb.out _ (List.getElem_mem hlt)
      have hr2 := hr.out
      rw [List.drop_eq_getElem_cons hlt, risesB] at hr2
      generalize l[k] = c at *
      by_cases hn : 0 ≤ c ∧ c ≤ 4611686018427387904
      · have e : decide (0 ≤ c ∧ c ≤ 4611686018427387904) = true := decide_eq_true hn
        by_cases hL : L < c
        · have hL' : ¬ c ≤ L := by omega
          have HR : Hid (risesB c (l.drop (k + 1)) = risesB (-1) l) := by
            show _ = _
            rw [← hr2, decide_eq_true ⟨hn.1, hn.2, hL⟩, Bool.true_and]
          clear hr2 hn
          go_wp2_with (go_at_call 124; refine (isNumber_any c h1 h2 _).mono ?_; rw [e]; rintro e w' ⟨rfl, hw'⟩; rw [hw']; clear hw' w')
          refine ⟨?_, by simp [intOf]; omega⟩
          exact ⟨k + 1, c, by omega, by go_num, rfl, HR, trivial⟩
        · have HR : R = 20 := by
            rw [← hR.out, risingErr, ← hr2, decide_eq_false (by omega), Bool.false_and]; rfl
          subst HR
          have hL' : c ≤ L := by omega
          clear hr2 hn
          go_wp2_with (go_at_call 124; refine (isNumber_any c h1 h2 _).mono ?_; rw [e]; rintro e w' ⟨rfl, hw'⟩; rw [hw']; clear hw' w')
          go_ret
          exact ⟨rfl, rfl⟩
      · have e : decide (0 ≤ c ∧ c ≤ 4611686018427387904) = false := decide_eq_false hn
        have HR : R = 20 := by
          rw [← hR.out, risingErr, ← hr2, decide_eq_false (by omega), Bool.false_and]; rfl
        subst HR
        clear hr2 hn
        go_wp2_with (go_at_call 124; refine (isNumber_any c h1 h2 _).mono ?_; rw [e]; rintro e w' ⟨rfl, hw'⟩; rw [hw']; clear hw' w')
        go_ret
        exact ⟨rfl, rfl⟩
    · obtain rfl : k = l.length := by omega
      have HR : R = 0 := by
        have := hr.out
        rw [List.drop_length, risesB] at this
        rw [← hR.out, risingErr, ← this]; rfl
      subst HR
      go_wp2
      go_ret
      exact ⟨rfl, rfl⟩

def textsErr (ps : List (List UInt8)) (many most : Int) : Int :=
  if many < 0 ∨ most < 0 then 1 else if many < (ps.length : Int) then 22 else if ∀ p ∈ ps, (p.length : Int) ≤ most then 0 else 22
def hashesErr (ps : List (List UInt8)) (many : Int) : Int :=
  if many < 0 then 1 else if many < (ps.length : Int) then 22 else if ∀ p ∈ ps, p.length = 32 then 0 else 20
theorem all_drop {α : Type} {q : α → Prop} {l : List α} {k : Nat} (h : k < l.length) (hk : (∀ p ∈ l.drop k, q p) ↔ ∀ p ∈ l, q p) (hq : q l[k]) : (∀ p ∈ l.drop (k + 1), q p) ↔ ∀ p ∈ l, q p := by
  refine ⟨fun e => hk.1 fun p hp => ?_, fun e p hp => e p (List.mem_of_mem_drop hp)⟩
  rw [List.drop_eq_getElem_cons h] at hp
  rcases List.mem_cons.1 hp with rfl | hp
  · exact hq
  · exact e p hp
theorem not_all_drop {α : Type} {q : α → Prop} {l : List α} {k : Nat} (h : k < l.length) (hq : ¬ q l[k]) : ¬ ∀ p ∈ l, q p := fun e => hq (e _ (List.getElem_mem h))

set_option maxRecDepth 100000 in
set_option maxHeartbeats 400000 in
theorem textsFault_any (v : Value) (ps : List (List UInt8)) (many most : Int) (hl : ps.length ≤ maxLen) (w : World) (hs : Slc w v ps) :
    Calls Tryz.prog 196 #[v, .int .i64 many, .int .i64 most] w fun r w' => r = .returned (.int .i64 (textsErr ps many most)) ∧ w' = w := by
  unfold maxLen at hl
  obtain ⟨a, cap, rfl, hs⟩ := hs
  have Hs := hid hs
  clear hs
  by_cases h1 : many < 0
  · rw [textsErr, if_pos (.inl h1)]
    go_enter Tryz.func196, Tryz.ntmps196
    go_wp2
    go_ret
    exact ⟨rfl, rfl⟩
  by_cases h2 : most < 0
  · rw [textsErr, if_pos (.inr h2)]
    go_enter Tryz.func196, Tryz.ntmps196
    go_wp2
    go_ret
    exact ⟨rfl, rfl⟩
  rw [textsErr, if_neg (by omega)]
  by_cases h3 : many < (ps.length : Int)
  · rw [if_pos h3]
    go_enter Tryz.func196, Tryz.ntmps196
    go_wp2
    go_ret
    exact ⟨rfl, rfl⟩
  rw [if_neg h3]
  obtain ⟨R, hR⟩ : ∃ R : Int, Hid ((if ∀ p ∈ ps, (p.length : Int) ≤ most then 0 else 22) = R) := ⟨_, rfl⟩
  rw [hR.out]
  go_enter Tryz.func196, Tryz.ntmps196
  go_wp2
  go_loopw [24] (fun i w' => ∃ (k : Nat), k ≤ ps.length ∧ i = .int .i64 k ∧ Hid ((∀ p ∈ ps.drop k, (p.length : Int) ≤ most) ↔ ∀ p ∈ ps, (p.length : Int) ≤ most) ∧ w' = w) (fun i _ => ps.length - (intOf i).toNat)
  case atStart => exact ⟨0, by omega, rfl, Iff.rfl, rfl⟩
  case round =>
    obtain ⟨k, hk, rfl, hr, rfl⟩ := hrel
    by_cases hlt : k < ps.length
    · have hlt' : (k : Int) < (ps.length : Int) := by omega
      obtain ⟨x, hx, hxb, hc⟩ := Hs.out k _ (List.getElem?_eq_getElem hlt)
      subst hx
      by_cases hp : (ps[k].length : Int) ≤ most
      · have HR := hid (all_drop hlt hr.out hp)
        have e : textErr (ByteArray.mk ps[k].toArray).size most = 0 := by rw [textErr, sv_size, if_neg (by omega), if_neg (by omega)]
        rw [sv] at hc
        generalize ps[k] = p at *
        generalize ByteArray.mk p.toArray = s at *
        clear hp
        go_wp2_with (go_at_call 41; refine (textFault_any s most _).mono ?_; rw [e]; rintro e w' ⟨rfl, hw'⟩; rw [hw']; clear hw' w')
        exact ⟨⟨k + 1, by omega, by go_num, HR, trivial⟩, by simp [intOf]; omega⟩
      · have HR : R = 22 := by rw [← hR.out, if_neg (not_all_drop (q := fun p : List UInt8 => (p.length : Int) ≤ most) hlt hp)]
        subst HR
        have e : textErr (ByteArray.mk ps[k].toArray).size most = 22 := by rw [textErr, sv_size, if_neg (by omega), if_pos (by omega)]
        rw [sv] at hc
        generalize ps[k] = p at *
        generalize ByteArray.mk p.toArray = s at *
        clear hp
        go_wp2_with (go_at_call 41; refine (textFault_any s most _).mono ?_; rw [e]; rintro e w' ⟨rfl, hw'⟩; rw [hw']; clear hw' w')
        go_ret
        exact ⟨rfl, rfl⟩
    · obtain rfl : k = ps.length := by omega
      have HR : R = 0 := by
        have := hr.out
        rw [List.drop_length] at this
        rw [← hR.out, if_pos (this.1 (by simp))]
      subst HR
      go_wp2
      go_ret
      exact ⟨rfl, rfl⟩

set_option maxRecDepth 100000 in
set_option maxHeartbeats 400000 in
theorem hashesFault_any (v : Value) (ps : List (List UInt8)) (many : Int) (hl : ps.length ≤ maxLen) (w : World) (hs : Slc w v ps) :
    Calls Tryz.prog 194 #[v, .int .i64 many] w fun r w' => r = .returned (.int .i64 (hashesErr ps many)) ∧ w' = w := by
  unfold maxLen at hl
  obtain ⟨a, cap, rfl, hs⟩ := hs
  have Hs := hid hs
  clear hs
  by_cases h1 : many < 0
  · rw [hashesErr, if_pos h1]
    go_enter Tryz.func194, Tryz.ntmps194
    go_wp2
    go_ret
    exact ⟨rfl, rfl⟩
  rw [hashesErr, if_neg h1]
  by_cases h3 : many < (ps.length : Int)
  · rw [if_pos h3]
    go_enter Tryz.func194, Tryz.ntmps194
    go_wp2
    go_ret
    exact ⟨rfl, rfl⟩
  rw [if_neg h3]
  obtain ⟨R, hR⟩ : ∃ R : Int, Hid ((if ∀ p ∈ ps, p.length = 32 then 0 else 20) = R) := ⟨_, rfl⟩
  rw [hR.out]
  go_enter Tryz.func194, Tryz.ntmps194
  go_wp2
  go_loopw [17] (fun i w' => ∃ (k : Nat), k ≤ ps.length ∧ i = .int .i64 k ∧ Hid ((∀ p ∈ ps.drop k, p.length = 32) ↔ ∀ p ∈ ps, p.length = 32) ∧ w' = w) (fun i _ => ps.length - (intOf i).toNat)
  case atStart => exact ⟨0, by omega, rfl, Iff.rfl, rfl⟩
  case round =>
    obtain ⟨k, hk, rfl, hr, rfl⟩ := hrel
    by_cases hlt : k < ps.length
    · have hlt' : (k : Int) < (ps.length : Int) := by omega
      obtain ⟨x, hx, hxb, hc⟩ := Hs.out k _ (List.getElem?_eq_getElem hlt)
      subst hx
      have hz := sv_size ps[k]
      by_cases hp : ps[k].length = 32
      · have HR := hid (all_drop hlt hr.out hp)
        rw [sv] at hc
        rw [hp] at hz
        generalize ps[k] = p at *
        generalize ByteArray.mk p.toArray = s at *
        clear hp
        have hz' : ((s.size : Int) == 32) = true := by simp [hz]
        go_wp2
        exact ⟨⟨k + 1, by omega, by go_num, HR, trivial⟩, by simp [intOf]; omega⟩
      · have HR : R = 20 := by rw [← hR.out, if_neg (not_all_drop (q := fun p : List UInt8 => p.length = 32) hlt hp)]
        subst HR
        rw [sv] at hc
        rw [← hz] at hp
        generalize ps[k] = p at *
        generalize ByteArray.mk p.toArray = s at *
        have hz' : ((s.size : Int) == 32) = false := by simp; omega
        go_wp2
        go_ret
        exact ⟨rfl, rfl⟩
    · obtain rfl : k = ps.length := by omega
      have HR : R = 0 := by
        have := hr.out
        rw [List.drop_length] at this
        rw [← hR.out, if_pos (this.1 (by simp))]
      subst HR
      go_wp2
      go_ret
      exact ⟨rfl, rfl⟩
end Go.Proofs.YtdhnjajloidohaaGreatDoor
