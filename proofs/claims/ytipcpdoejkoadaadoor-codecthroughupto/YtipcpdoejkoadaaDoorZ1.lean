import Derived.Test.YtipcpdoejkoadaaDoorU1
namespace Go.Proofs.YtipcpdoejkoadaaDoor
open Go.RowKit Cod

/-- a comparison's answer -/
def SaidB {α : Type} (l m : List α) (w : World) (e : Ending) (w' : World) : Prop := ∃ b, e = .returned (.bool b) ∧ (Below w.heap.size w w' ∧ w'.heap = w.heap) ∧ (l = m → b = true)
theorem sv_str (l : List UInt8) : ∃ b : ByteArray, sv l = .string b ∧ b.data.toList = l := ⟨⟨l.toArray⟩, rfl, sv_data l⟩

set_option maxRecDepth 100000 in
set_option maxHeartbeats 400000 in
theorem lnumber_any (c : Int) (hc1 : -9223372036854775808 ≤ c) (hc2 : c ≤ 9223372036854775807) (w : World) :
    Calls Tryd.prog 67 #[.int .i64 c] w fun e w' => e = .returned (.int .i64 (pk c 4611686018427387904)) ∧ w' = w := by
  go_enter Tryd.func67, Tryd.ntmps67
  go_wp2_with (go_at_call 10; fail)
  refine (pick_any c 4611686018427387904 hc1 hc2 (by decide) (by decide) _).mono ?_
  rintro z w' ⟨rfl, hw'⟩
  rw [hw']
  clear hw' w'
  go_wp2
  go_ret
  exact ⟨rfl, rfl⟩

set_option maxRecDepth 100000 in
set_option maxHeartbeats 800000 in
theorem sameInts_any (va vb : Value) (l m : List Int) (w : World) (ha : SlcI w va l) (hb : SlcI w vb m) (hll : l.length ≤ 9223372036854775807) (hml : m.length ≤ 9223372036854775807) :
    Calls Tryd.prog 71 #[va, vb] w (SaidB l m w) := by
  obtain ⟨a, ca, rfl, ha⟩ := ha
  obtain ⟨d, cd, rfl, hd⟩ := hb
  have Ha := hid ha
  have Hd := hid hd
  clear ha hd
  by_cases hlen : l.length = m.length
  · have n1 : ((l.length : Int) != (m.length : Int)) = false := by simp; omega
    have n2 : ((l.length : Int) == (m.length : Int)) = true := by simp; omega
    have HL := hid hlen
    clear hlen
    go_enter Tryd.func71, Tryd.ntmps71
    go_wp2
    go_loopw [5] (fun i w' => ∃ k : Nat, k ≤ l.length ∧ i = .int .i64 k ∧ Hid (Below w.heap.size w w' ∧ w'.heap = w.heap)) (fun i _ => l.length - (intOf i).toNat)
    case atStart => exact ⟨0, by omega, rfl, hid ⟨Below.refl _ _, rfl⟩⟩
    case round =>
      obtain ⟨k, hk, rfl, hw'⟩ := hrel
      by_cases hlt : k < l.length
      · have b0 : (k : Int) < (l.length : Int) := by omega
        have hkm : k < m.length := by have := HL.out; omega
        have b1 : (k : Int) < (m.length : Int) := by omega
        obtain ⟨x, rfl, xb, hx⟩ := Ha.out k l[k] (List.getElem?_eq_getElem hlt)
        rw [← hw'.out.1.cell (p := x.add k) (by rw [add_block]; exact xb)] at hx
        clear xb
        obtain ⟨y, rfl, yb, hy⟩ := Hd.out k m[k] (List.getElem?_eq_getElem hkm)
        rw [← hw'.out.1.cell (p := y.add k) (by rw [add_block]; exact yb)] at hy
        clear yb
        by_cases he : l[k] = m[k]
        · rw [← he] at hy
          clear he
          generalize l[k] = q at *
          have y1 : (q == q) = true := by simp
          have y2 : (q != q) = false := by simp
          go_wp2
          go_quiet (fail)
          go_wp2
          exact ⟨⟨k + 1, by omega, by go_num, hid ⟨below_drewN hw'.out.1 _, hw'.out.2⟩⟩, by simp [intOf]; omega⟩
        · have hne : Hid (l = m → false = true) := hid (fun e => absurd (by subst e; rfl) he)
          have y1 : (l[k] == m[k]) = false := by simp [he]
          have y2 : (l[k] != m[k]) = true := by simp [he]
          generalize l[k] = q at *
          generalize m[k] = r at *
          clear he
          go_wp2
          go_quiet (fail)
          go_wp2
          go_ret
          exact ⟨false, rfl, ⟨below_drewN hw'.out.1 _, hw'.out.2⟩, hne.out⟩
      · have b0 : ¬ (k : Int) < (l.length : Int) := by omega
        go_wp2
        go_ret
        exact ⟨true, rfl, hw'.out, fun _ => rfl⟩
  · have n1 : ((l.length : Int) != (m.length : Int)) = true := by simp; omega
    have n2 : ((l.length : Int) == (m.length : Int)) = false := by simp; omega
    have HL := hid hlen
    clear hlen
    go_enter Tryd.func71, Tryd.ntmps71
    go_wp2
    go_ret
    exact ⟨false, rfl, ⟨Below.refl _ _, rfl⟩, fun e => absurd (by rw [e]) HL.out⟩
set_option maxRecDepth 100000 in
set_option maxHeartbeats 800000 in
theorem sameTexts_any (va vb : Value) (l m : List (List UInt8)) (w : World) (ha : Slc w va l) (hb : Slc w vb m) (hll : l.length ≤ 9223372036854775807) (hml : m.length ≤ 9223372036854775807) :
    Calls Tryd.prog 72 #[va, vb] w (SaidB l m w) := by
  obtain ⟨a, ca, rfl, ha⟩ := ha
  obtain ⟨d, cd, rfl, hd⟩ := hb
  have Ha := hid ha
  have Hd := hid hd
  clear ha hd
  by_cases hlen : l.length = m.length
  · have n1 : ((l.length : Int) != (m.length : Int)) = false := by simp; omega
    have n2 : ((l.length : Int) == (m.length : Int)) = true := by simp; omega
    have HL := hid hlen
    clear hlen
    go_enter Tryd.func72, Tryd.ntmps72
    go_wp2
    go_loopw [5] (fun i w' => ∃ k : Nat, k ≤ l.length ∧ i = .int .i64 k ∧ Hid (Below w.heap.size w w' ∧ w'.heap = w.heap)) (fun i _ => l.length - (intOf i).toNat)
    case atStart => exact ⟨0, by omega, rfl, hid ⟨Below.refl _ _, rfl⟩⟩
    case round =>
      obtain ⟨k, hk, rfl, hw'⟩ := hrel
      by_cases hlt : k < l.length
      · have b0 : (k : Int) < (l.length : Int) := by omega
        have hkm : k < m.length := by have := HL.out; omega
        have b1 : (k : Int) < (m.length : Int) := by omega
        obtain ⟨x, rfl, xb, hx⟩ := Ha.out k l[k] (List.getElem?_eq_getElem hlt)
        rw [← hw'.out.1.cell (p := x.add k) (by rw [add_block]; exact xb)] at hx
        clear xb
        obtain ⟨y, rfl, yb, hy⟩ := Hd.out k m[k] (List.getElem?_eq_getElem hkm)
        rw [← hw'.out.1.cell (p := y.add k) (by rw [add_block]; exact yb)] at hy
        clear yb
        obtain ⟨p, hp, hpl⟩ := sv_str l[k]
        obtain ⟨q, hq, hql⟩ := sv_str m[k]
        rw [hp] at hx
        rw [hq] at hy
        by_cases he : l[k] = m[k]
        · have hpq : p = q := by have := hp.symm.trans ((congrArg sv he).trans hq); injection this
          subst hpq
          have y1 : (p.toList == p.toList) = true := by simp
          have y2 : (p.toList != p.toList) = false := by simp
          clear he hp hq hpl hql
          go_wp2
          go_quiet (fail)
          go_wp2
          exact ⟨⟨k + 1, by omega, by go_num, hid ⟨below_drewN hw'.out.1 _, hw'.out.2⟩⟩, by simp [intOf]; omega⟩
        · have hne : Hid (l = m → false = true) := hid (fun e => absurd (by subst e; rfl) he)
          have hpq : p.toList ≠ q.toList := fun e => he (by rw [← hpl, ← hql, ← ByteArray.toList_eq, ← ByteArray.toList_eq, e])
          have y1 : (p.toList == q.toList) = false := beq_eq_false_iff_ne.2 hpq
          have y2 : (p.toList != q.toList) = true := bne_iff_ne.2 hpq
          clear he hp hq hpl hql
          go_wp2
          go_quiet (fail)
          go_wp2
          go_ret
          exact ⟨false, rfl, ⟨below_drewN hw'.out.1 _, hw'.out.2⟩, hne.out⟩
      · have b0 : ¬ (k : Int) < (l.length : Int) := by omega
        go_wp2
        go_ret
        exact ⟨true, rfl, hw'.out, fun _ => rfl⟩
  · have n1 : ((l.length : Int) != (m.length : Int)) = true := by simp; omega
    have n2 : ((l.length : Int) == (m.length : Int)) = false := by simp; omega
    have HL := hid hlen
    clear hlen
    go_enter Tryd.func72, Tryd.ntmps72
    go_wp2
    go_ret
    exact ⟨false, rfl, ⟨Below.refl _ _, rfl⟩, fun e => absurd (by rw [e]) HL.out⟩
end Go.Proofs.YtipcpdoejkoadaaDoor
