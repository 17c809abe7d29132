import Derived.Test.YtonmhimoglgbgaaDoorF1
namespace Go.Proofs.YtonmhimoglgbgaaDoor
open Go.RowKit Cod

/-- a Writer: its bytes, or what was wrong first -/
inductive WSt where
  | ok (bs : List UInt8)
  | bad (e : Int)
def WSt.put (st : WSt) (e : Int) (l : List UInt8) : WSt :=
  match st with
  | .bad f => .bad f
  | .ok bs => if e = 0 then .ok (bs ++ l) else .bad e
/-- a fault as an error -/
def flt (e k : Int) : Value := .iface 70 (.agg #[.int .i64 e, .int .i64 k])
/-- a Writer lies in block b, its bytes in v -/
def Wri (w : World) (base b : Nat) (v : Value) (st : WSt) : Prop :=
  base ≤ b ∧ match st with
  | .ok bs => w.heap[b]? = some (.cells #[v, .nilIface] 61 (0, 0)) ∧ OwnB w base v bs ∧ v.ownBlock ≠ some b
  | .bad e => w.heap[b]? = some (.cells #[v, flt e 0] 61 (0, 0)) ∧ v = .slice none 0 0 ∧ e ≠ 0
/-- its blocks -/
def WS (b : Nat) (v : Value) : Nat → Prop := fun k => k = b ∨ v.ownBlock = some k

theorem Wri.lt {w : World} {base b : Nat} {v : Value} {st : WSt} (h : Wri w base b v st) : b < w.heap.size := by
  cases st with
  | ok bs => exact lt_of_heap h.2.1
  | bad e => exact lt_of_heap h.2.1
theorem Wri.in {w : World} {base b : Nat} {v : Value} {st : WSt} (h : Wri w base b v st) : ∀ k, WS b v k → base ≤ k ∧ k < w.heap.size := by
  have hl := h.lt
  cases st with
  | ok bs =>
    intro k hk
    rcases hk with rfl | hk
    · exact ⟨h.1, hl⟩
    · exact ⟨h.2.2.1.ge k hk, h.2.2.1.lt k hk⟩
  | bad e =>
    intro k hk
    rcases hk with rfl | hk
    · exact ⟨h.1, hl⟩
    · obtain ⟨_, _, rfl, _⟩ := h; cases hk
theorem Wri.keep {S : Nat → Prop} {w w' : World} {base b : Nat} {v : Value} {st : WSt} (h : Wri w base b v st) (hb : Keep S w w') (hne : ∀ k, WS b v k → ¬ S k) : Wri w' base b v st := by
  have hl := h.lt
  cases st with
  | ok bs => exact ⟨h.1, (hb.block b hl (hne b (.inl rfl))).trans h.2.1, h.2.2.1.keep hb (fun k hk => hne k (.inr hk)), h.2.2.2⟩
  | bad e => exact ⟨h.1, (hb.block b hl (hne b (.inl rfl))).trans h.2.1, h.2.2⟩
theorem Wri.below {w w' : World} {base b : Nat} {v : Value} {st : WSt} (h : Wri w base b v st) (hb : Below w.heap.size w w') : Wri w' base b v st :=
  h.keep (S := fun _ => False) (Keep.ofBelow hb) (fun _ _ h => h)
theorem row2_set0 {w : World} {b : Nat} {x y z : Value} {t : TypeId} (h : w.heap[b]? = some (.cells #[x, y] t (0, 0))) : (w.setCell ⟨b, 0, none⟩ z).heap[b]? = some (.cells #[z, y] t (0, 0)) := by
  rw [heap_setCell_same _ _ _ _ _ _ h]; rfl
theorem row2_set1 {w : World} {b : Nat} {x y z : Value} {t : TypeId} (h : w.heap[b]? = some (.cells #[x, y] t (0, 0))) : (w.setCell ⟨b, 1, none⟩ z).heap[b]? = some (.cells #[x, z] t (0, 0)) := by
  rw [heap_setCell_same _ _ _ _ _ _ h]; rfl

set_option maxRecDepth 100000 in
set_option maxHeartbeats 400000 in
theorem takes_bad {base b : Nat} {v : Value} {f e : Int} (w : World) (h : Wri w base b v (.bad f)) :
    Calls Tryd.prog 53 #[.pointer (some ⟨b, 0, none⟩), .int .i64 e] w fun r w' => r = .returned (.bool false) ∧ w' = w := by
  have c1 : w.cell? ⟨b, 1, none⟩ = some (.iface 70 (.agg #[.int .i64 f, .int .i64 0])) := by rw [cell_of_row _ _ _ _ _ _ h.2.1]; rfl
  clear h
  go_enter Tryd.func53, Tryd.ntmps53
  go_wp2
  go_ret
  exact ⟨rfl, rfl⟩
set_option maxRecDepth 100000 in
set_option maxHeartbeats 400000 in
theorem takes_yes {base b : Nat} {v : Value} {bs : List UInt8} {e : Int} (w : World) (h : Wri w base b v (.ok bs)) (he : e = 0) :
    Calls Tryd.prog 53 #[.pointer (some ⟨b, 0, none⟩), .int .i64 e] w fun r w' => r = .returned (.bool true) ∧ w' = w := by
  subst he
  have c1 : w.cell? ⟨b, 1, none⟩ = some .nilIface := by rw [cell_of_row _ _ _ _ _ _ h.2.1]; rfl
  clear h
  go_enter Tryd.func53, Tryd.ntmps53
  go_wp2
  go_ret
  exact ⟨rfl, rfl⟩
set_option maxRecDepth 100000 in
set_option maxHeartbeats 400000 in
theorem takes_no {base b : Nat} {v : Value} {bs : List UInt8} {e : Int} (w : World) (h : Wri w base b v (.ok bs)) (he : e ≠ 0) :
    Calls Tryd.prog 53 #[.pointer (some ⟨b, 0, none⟩), .int .i64 e] w fun r w' => r = .returned (.bool false) ∧ Wri w' base b (.slice none 0 0) (.bad e) ∧ But b w w' := by
  have c0 : w.cell? ⟨b, 0, none⟩ = some v := by rw [cell_of_row _ _ _ _ _ _ h.2.1]; rfl
  have c1 : w.cell? ⟨b, 1, none⟩ = some .nilIface := by rw [cell_of_row _ _ _ _ _ _ h.2.1]; rfl
  have f0 : w.frozen? ⟨b, 0, none⟩ = false := frozen_of_row _ _ _ _ _ h.2.1
  have f1 : w.frozen? ⟨b, 1, none⟩ = false := frozen_of_row _ _ _ _ _ h.2.1
  have H := hid h
  clear h
  go_enter Tryd.func53, Tryd.ntmps53
  go_wp2
  go_ret
  refine ⟨rfl, ⟨H.out.1, ?_, rfl, he⟩, ((But.refl b w).setCell 0 _).setCell 1 _⟩
  exact row2_set1 (row2_set0 H.out.2.1)

theorem i64_nonneg {n : Int} (h : 0 ≤ n) : n = (n.toNat : Int) := by omega
def byteErr (n : Int) : Int := if n < 0 ∨ 255 < n then 20 else 0
def numErr (n : Int) : Int := if n < 0 ∨ 4611686018427387904 < n then 20 else 0
def textErr (k : Nat) (most : Int) : Int := if most < 0 then 1 else if most < (k : Int) then 22 else 0
set_option maxRecDepth 100000 in
theorem byteFault_any (n : Int) (w : World) : Calls Tryd.prog 54 #[.int .i64 n] w fun r w' => r = .returned (.int .i64 (byteErr n)) ∧ w' = w := by
  by_cases h : n < 0 ∨ 255 < n
  · rw [byteErr, if_pos h]
    rcases h with h | h
    · go_enter Tryd.func54, Tryd.ntmps54
      go_wp2
      go_ret
      exact ⟨rfl, rfl⟩
    · have h0 : ¬ n < 0 := by omega
      go_enter Tryd.func54, Tryd.ntmps54
      go_wp2
      go_ret
      exact ⟨rfl, rfl⟩
  · rw [byteErr, if_neg h]
    have h0 : ¬ n < 0 := by omega
    have h1 : ¬ 255 < n := by omega
    go_enter Tryd.func54, Tryd.ntmps54
    go_wp2
    go_ret
    exact ⟨rfl, rfl⟩
set_option maxRecDepth 100000 in
theorem isNumber_any (n : Int) (h1 : -9223372036854775808 ≤ n) (h2 : n ≤ 9223372036854775807) (w : World) : Calls Tryd.prog 88 #[.int .i64 n] w fun r w' => r = .returned (.bool (decide (0 ≤ n ∧ n ≤ 4611686018427387904))) ∧ w' = w := by
  by_cases h : n < 0
  · have e : decide (0 ≤ n ∧ n ≤ 4611686018427387904) = false := decide_eq_false (by omega)
    rw [e]
    go_enter Tryd.func88, Tryd.ntmps88
    go_wp2
    go_ret
    exact ⟨rfl, rfl⟩
  · have hu : IntKind.u64.wrap n = n := by rw [IntKind.wrap_u64]; omega
    have hge : 0 ≤ n := by omega
    by_cases h3 : n ≤ 4611686018427387904
    · have e : decide (0 ≤ n ∧ n ≤ 4611686018427387904) = true := decide_eq_true (by omega)
      rw [e]
      go_enter Tryd.func88, Tryd.ntmps88
      go_wp2
      go_ret
      exact ⟨rfl, rfl⟩
    · have e : decide (0 ≤ n ∧ n ≤ 4611686018427387904) = false := decide_eq_false (by omega)
      rw [e]
      go_enter Tryd.func88, Tryd.ntmps88
      go_wp2
      go_ret
      exact ⟨rfl, rfl⟩
set_option maxRecDepth 100000 in
theorem numFault_any (n : Int) (h1 : -9223372036854775808 ≤ n) (h2 : n ≤ 9223372036854775807) (w : World) : Calls Tryd.prog 55 #[.int .i64 n] w fun r w' => r = .returned (.int .i64 (numErr n)) ∧ w' = w := by
  by_cases h : n < 0 ∨ 4611686018427387904 < n
  · rw [numErr, if_pos h]
    have e : decide (0 ≤ n ∧ n ≤ 4611686018427387904) = false := decide_eq_false (by omega)
    go_enter Tryd.func55, Tryd.ntmps55
    go_wp2_with (go_at_call 88; refine (isNumber_any n h1 h2 _).mono ?_; rw [e]; rintro e w' ⟨rfl, hw'⟩; rw [hw']; clear hw' w')
    go_ret
    exact ⟨rfl, rfl⟩
  · rw [numErr, if_neg h]
    have e : decide (0 ≤ n ∧ n ≤ 4611686018427387904) = true := decide_eq_true (by omega)
    go_enter Tryd.func55, Tryd.ntmps55
    go_wp2_with (go_at_call 88; refine (isNumber_any n h1 h2 _).mono ?_; rw [e]; rintro e w' ⟨rfl, hw'⟩; rw [hw']; clear hw' w')
    go_ret
    exact ⟨rfl, rfl⟩
set_option maxRecDepth 100000 in
theorem textFault_any (s : ByteArray) (most : Int) (w : World) : Calls Tryd.prog 58 #[.string s, .int .i64 most] w fun r w' => r = .returned (.int .i64 (textErr s.size most)) ∧ w' = w := by
  by_cases h : most < 0
  · rw [textErr, if_pos h]
    go_enter Tryd.func58, Tryd.ntmps58
    go_wp2
    go_ret
    exact ⟨rfl, rfl⟩
  · rw [textErr, if_neg h]
    by_cases h3 : most < (s.size : Int)
    · rw [if_pos h3]
      go_enter Tryd.func58, Tryd.ntmps58
      go_wp2
      go_ret
      exact ⟨rfl, rfl⟩
    · rw [if_neg h3]
      go_enter Tryd.func58, Tryd.ntmps58
      go_wp2
      go_ret
      exact ⟨rfl, rfl⟩
end Go.Proofs.YtonmhimoglgbgaaDoor
