import Derived.Test.YtonmhimoglgbgaaDoorU1
namespace Go.Proofs.YtonmhimoglgbgaaDoor
open Go.RowKit Cod

/-- a comparison's answer -/
def SaidB {α : Type} (l m : List α) (w : World) (e : Ending) (w' : World) : Prop := ∃ b, e = .returned (.bool b) ∧ (Below w.heap.size w w' ∧ w'.heap = w.heap) ∧ (l = m → b = true)
theorem sv_str (l : List UInt8) : ∃ b : ByteArray, sv l = .string b ∧ b.data.toList = l := ⟨⟨l.toArray⟩, rfl, sv_data l⟩

set_option maxRecDepth 100000 in
set_option maxHeartbeats 400000 in
theorem lnumber_any (c : Int) (hc1 : -9223372036854775808 ≤ c) (hc2 : c ≤ 9223372036854775807) (w : World) :
    Calls Tryd.prog 26 #[.int .i64 c] w fun e w' => e = .returned (.int .i64 (pk c 4611686018427387904)) ∧ w' = w := by
  go_enter Tryd.func26, Tryd.ntmps26
  go_wp2_with (go_at_call 25; fail)
  refine (pick_any c 4611686018427387904 hc1 hc2 (by decide) (by decide) _).mono ?_
  rintro z w' ⟨rfl, hw'⟩
  rw [hw']
  clear hw' w'
  go_wp2
  go_ret
  exact ⟨rfl, rfl⟩

set_option maxRecDepth 100000 in
set_option maxHeartbeats 800000 in
theorem sameInts_any (va vb : Value) (l m : List Int) (w : World) (ha : SlcI w va l) (hb : SlcI w vb m) (hll : l.length ≤ 9223372036854775807) (hml : m.length ≤ 9223372036854775807) :
    Calls Tryd.prog 34 #[va, vb] w (SaidB l m w) := by
  obtain ⟨a, ca, rfl, ha⟩ := ha
  obtain ⟨d, cd, rfl, hd⟩ := hb
  have Ha := hid ha
  have Hd := hid hd
  clear ha hd
  by_cases hlen : l.length = m.length
  · have n1 : ((l.length : Int) != (m.length : Int)) = false := by simp; omega
    have n2 : ((l.length : Int) == (m.length : Int)) = true := by simp; omega
    have HL := hid hlen
    clear hlen
    go_enter Tryd.func34, Tryd.ntmps34
    go_wp2
    go_loopw [5] (fun i w' => ∃ k : Nat, k ≤ l.length ∧ i = .int .i64 k ∧ Hid (Below w.heap.size w w' ∧ w'.heap = w.heap)) (fun i _ => l.length - (intOf i).toNat)
    case atStart => exact ⟨0, by omega, rfl, hid ⟨Below.refl _ _, rfl⟩⟩
    case round =>
      obtain ⟨k, hk, rfl, hw'⟩ := hrel
      by_cases hlt : k < l.length
      · have b0 : (k : Int) < (l.length : Int) := by omega
        have hkm : k < m.length := by have := HL.out; omega
        have b1 : (k : Int) < (m.length : Int) := by omega
        obtain ⟨x, rfl, xb, hx⟩ := Ha.out k l[k] (List.getElem?_eq_getElem hlt)
        rw [← hw'.out.1.cell (p := x.add k) (by rw [add_block]; exact xb)] at hx
        clear xb
        obtain ⟨y, rfl, yb, hy⟩ := Hd.out k m[k] (List.getElem?_eq_getElem hkm)
        rw [← hw'.out.1.cell (p := y.add k) (by rw [add_block]; exact yb)] at hy
        clear yb
        by_cases he : l[k] = m[k]
        · rw [← he] at hy
          clear he
          generalize l[k] = q at *
          have y1 : (q == q) = true := by simp
          have y2 : (q != q) = false := by simp
          go_wp2
          go_quiet (fail)
          go_wp2
          exact ⟨⟨k + 1, by omega, by go_num, hid ⟨below_drewN hw'.out.1 _, hw'.out.2⟩⟩, by simp [intOf]; omega⟩
        · have hne : Hid (l = m → false = true) := hid (fun e => absurd (by subst e; rfl) he)
          have y1 : (l[k] == m[k]) = false := by simp [he]
          have y2 : (l[k] != m[k]) = true := by simp [he]
          generalize l[k] = q at *
          generalize m[k] = r at *
          clear he
          go_wp2
          go_quiet (fail)
          go_wp2
          go_ret
          exact ⟨false, rfl, ⟨below_drewN hw'.out.1 _, hw'.out.2⟩, hne.out⟩
      · have b0 : ¬ (k : Int) < (l.length : Int) := by omega
        go_wp2
        go_ret
        exact ⟨true, rfl, hw'.out, fun _ => rfl⟩
  · have n1 : ((l.length : Int) != (m.length : Int)) = true := by simp; omega
    have n2 : ((l.length : Int) == (m.length : Int)) = false := by simp; omega
    have HL := hid hlen
    clear hlen
    go_enter Tryd.func34, Tryd.ntmps34
    go_wp2
    go_ret
    exact ⟨false, rfl, ⟨Below.refl _ _, rfl⟩, fun e => absurd (by rw [e]) HL.out⟩
set_option maxRecDepth 100000 in
set_option maxHeartbeats 800000 in
theorem sameTexts_any (va vb : Value) (l m : List (List UInt8)) (w : World) (ha : Slc w va l) (hb : Slc w vb m) (hll : l.length ≤ 9223372036854775807) (hml : m.length ≤ 9223372036854775807) :
    Calls Tryd.prog 35 #[va, vb] w (SaidB l m w) := by
  obtain ⟨a, ca, rfl, ha⟩ := ha
  obtain ⟨d, cd, rfl, hd⟩ := hb
  have Ha := hid ha
  have Hd := hid hd
  clear ha hd
  by_cases hlen : l.length = m.length
  · have n1 : ((l.length : Int) != (m.length : Int)) = false := by simp; omega
    have n2 : ((l.length : Int) == (m.length : Int)) = true := by simp; omega
    have HL := hid hlen
    clear hlen
    go_enter Tryd.func35, Tryd.ntmps35
    go_wp2
    go_loopw [5] (fun i w' => ∃ k : Nat, k ≤ l.length ∧ i = .int .i64 k ∧ Hid (Below w.heap.size w w' ∧ w'.heap = w.heap)) (fun i _ => l.length - (intOf i).toNat)
    case atStart => exact ⟨0, by omega, rfl, hid ⟨Below.refl _ _, rfl⟩⟩
    case round =>
      obtain ⟨k, hk, rfl, hw'⟩ := hrel
      by_cases hlt : k < l.length
      · have b0 : (k : Int) < (l.length : Int) := by omega
        have hkm : k < m.length := by have := HL.out; omega
        have b1 : (k : Int) < (m.length : Int) := by omega
        obtain ⟨x, rfl, xb, hx⟩ := Ha.out k l[k] (List.getElem?_eq_getElem hlt)
        rw [← hw'.out.1.cell (p := x.add k) (by rw [add_block]; exact xb)] at hx
        clear xb
        obtain ⟨y, rfl, yb, hy⟩ := Hd.out k m[k] (List.getElem?_eq_getElem hkm)
        rw [← hw'.out.1.cell (p := y.add k) (by rw [add_block]; exact yb)] at hy
        clear yb
        obtain ⟨p, hp, hpl⟩ := sv_str l[k]
        obtain ⟨q, hq, hql⟩ := sv_str m[k]
        rw [hp] at hx
        rw [hq] at hy
        by_cases he : l[k] = m[k]
        · have hpq : p = q := by have := hp.symm.trans ((congrArg sv he).trans hq); injection this
          subst hpq
          have y1 : (p.toList == p.toList) = true := by simp
          have y2 : (p.toList != p.toList) = false := by simp
          clear he hp hq hpl hql
          go_wp2
          go_quiet (fail)
          go_wp2
          exact ⟨⟨k + 1, by omega, by go_num, hid ⟨below_drewN hw'.out.1 _, hw'.out.2⟩⟩, by simp [intOf]; omega⟩
        · have hne : Hid (l = m → false = true) := hid (fun e => absurd (by subst e; rfl) he)
          have hpq : p.toList ≠ q.toList := fun e => he (by rw [← hpl, ← hql, ← ByteArray.toList_eq, ← ByteArray.toList_eq, e])
          have y1 : (p.toList == q.toList) = false := beq_eq_false_iff_ne.2 hpq
          have y2 : (p.toList != q.toList) = true := bne_iff_ne.2 hpq
          clear he hp hq hpl hql
          go_wp2
          go_quiet (fail)
          go_wp2
          go_ret
          exact ⟨false, rfl, ⟨below_drewN hw'.out.1 _, hw'.out.2⟩, hne.out⟩
      · have b0 : ¬ (k : Int) < (l.length : Int) := by omega
        go_wp2
        go_ret
        exact ⟨true, rfl, hw'.out, fun _ => rfl⟩
  · have n1 : ((l.length : Int) != (m.length : Int)) = true := by simp; omega
    have n2 : ((l.length : Int) == (m.length : Int)) = false := by simp; omega
    have HL := hid hlen
    clear hlen
    go_enter Tryd.func35, Tryd.ntmps35
    go_wp2
    go_ret
    exact ⟨false, rfl, ⟨Below.refl _ _, rfl⟩, fun e => absurd (by rw [e]) HL.out⟩
end Go.Proofs.YtonmhimoglgbgaaDoor

namespace Go.Proofs.YtonmhimoglgbgaaDoor
open Go.RowKit Cod

/-- numbers made to rise: those of the first k, and the next one's least -/
def rs (l : List Int) : Nat → List Nat × Nat
  | 0 => ([], 0)
  | k + 1 => ((rs l k).1 ++ [(rs l k).2 + (pk (l.getD k 0) 1099511627776).toNat], (rs l k).2 + (pk (l.getD k 0) 1099511627776).toNat + 1)
theorem rs_len (l : List Int) (k : Nat) : (rs l k).1.length = k := by
  induction k with
  | zero => rfl
  | succ k ih => simp [rs, ih]
theorem rs_le (l : List Int) (k : Nat) : (rs l k).2 ≤ k * 1099511627776 := by
  induction k with
  | zero => simp [rs]
  | succ k ih =>
    have := pk_lt (l.getD k 0) 1099511627776 (by decide)
    have := pk_nonneg (l.getD k 0) 1099511627776 (by decide)
    simp only [rs]
    omega

set_option maxRecDepth 100000 in
set_option maxHeartbeats 800000 in
theorem rising_any (va : Value) (l : List Int) (w : World) (ha : SlcI w va l) (hl : ∀ c ∈ l, -9223372036854775808 ≤ c ∧ c ≤ 9223372036854775807) (hll : l.length ≤ 9223372036854775807) :
    Calls Tryd.prog 27 #[va] w fun e w' => ∃ v, e = .returned v ∧ Own w' w.heap.size v (nvs (rs l (min l.length 8)).1) ∧ Below w.heap.size w w' := by
  obtain ⟨a, ca, rfl, ha⟩ := ha
  have Ha := hid ha
  have Hl := hid hl
  clear ha hl
  go_enter Tryd.func27, Tryd.ntmps27
  go_wp2
  go_loopw [3, 4, 5] (fun out last i w' => ∃ k z : Nat, k ≤ l.length ∧ k ≤ 8 ∧ z ≤ k * 1099511627776 ∧ i = .int .i64 k ∧ last = .int .i64 ((z : Int) - 1) ∧ Hid ((rs l k).2 = z) ∧ Hid (Own w' w.heap.size out (nvs (rs l k).1)) ∧ Hid (Below w.heap.size w w')) (fun _ _ i _ => l.length - (intOf i).toNat)
  case atStart => exact ⟨0, 0, by omega, by omega, by omega, rfl, rfl, rfl, hid (Own.nil _ _), hid (Below.refl _ _)⟩
  case round =>
    obtain ⟨k, z, hk, hk8, hz, rfl, rfl, Hz, Ho, hb⟩ := hrel
    by_cases hlt : k < l.length
    · by_cases h8 : k < 8
      · have b0 : (k : Int) < (l.length : Int) := by omega
        have b8 : (k : Int) < 8 := by omega
        obtain ⟨x, rfl, xb, hx⟩ := Ha.out k l[k] (List.getElem?_eq_getElem hlt)
        rw [← hb.out.cell (p := x.add k) (by rw [add_block]; exact xb)] at hx
        obtain ⟨c1, c2⟩ := Hl.out l[k] (List.getElem_mem hlt)
        obtain ⟨r, hr, hr2⟩ := pk_nat l[k] 1099511627776 (by decide)
        have hrs : Hid ((rs l (k + 1)) = ((rs l k).1 ++ [z + r], z + r + 1)) := hid (by
          rw [rs, Hz.out, show l.getD k 0 = l[k] from by simp [List.getD, List.getElem?_eq_getElem hlt], hr.out]; rfl)
        have q1 : IntKind.i64.wrap ((z : Int) - 1 + 1) = z := by rw [IntKind.wrap_i64]; omega
        have q2 : IntKind.i64.wrap ((z : Int) + r) = (z + r : Nat) := by rw [IntKind.wrap_i64]; omega
        generalize l[k] = q at *
        obtain ⟨v5, w5, hcc, g1, g2, g3⟩ := app_int _ w.heap.size _ (rs l k).1 (z + r) Ho.out (by rw [rs_len]; omega) hb.out.size
        have O5 : Hid (Own w5 w.heap.size v5 (nvs (rs l (k + 1)).1)) := hid (by rw [hrs.out]; exact g1)
        have B5 : Hid (Below w.heap.size w w5) := hid (hb.out.trans (g2.below hb.out.size (fun j hj e => by have := Ho.out.ge j e; omega)))
        clear g1 g2 g3 xb
        go_wp2_with first
          | (go_at_call 25; refine (pick_at hr c1 c2 (by omega) (by omega) _).mono ?_; rintro y w' ⟨rfl, hw'⟩; rw [hw']; clear hw' w')
          | (at_builtin; go_must (refine Lib.wpList_append_run _ rfl _ _ 45 45 rfl _ _ rfl rfl _ _ hcc ?_))
        exact ⟨⟨k + 1, z + r + 1, by omega, by omega, by omega, by go_num, by congr 1; omega, hid (by rw [hrs.out]), O5, B5⟩, by simp [intOf]; omega⟩
      · have b0 : (k : Int) < (l.length : Int) := by omega
        have b8 : ¬ (k : Int) < 8 := by omega
        have hm : Hid (min l.length 8 = k) := hid (by omega)
        go_wp2
        go_ret
        exact ⟨_, rfl, by rw [hm.out]; exact Ho.out, hb.out⟩
    · have b0 : ¬ (k : Int) < (l.length : Int) := by omega
      have hm : Hid (min l.length 8 = k) := hid (by omega)
      go_wp2
      go_ret
      exact ⟨_, rfl, by rw [hm.out]; exact Ho.out, hb.out⟩
end Go.Proofs.YtonmhimoglgbgaaDoor

namespace Go.Proofs.YtonmhimoglgbgaaDoor
open Go.RowKit Cod

/-- texts made short -/
def tx (l : List (List UInt8)) (k : Nat) : List (List UInt8) := (l.take k).map (·.take 20)
theorem tx_len (l : List (List UInt8)) (k : Nat) (h : k ≤ l.length) : (tx l k).length = k := by simp [tx]; omega
theorem tx_succ (l : List (List UInt8)) (k : Nat) (h : k < l.length) : tx l (k + 1) = tx l k ++ [l[k].take 20] := by
  rw [tx, tx, List.take_add_one, List.getElem?_eq_getElem h, List.map_append]; rfl

set_option maxRecDepth 100000 in
set_option maxHeartbeats 800000 in
theorem texts_any (va : Value) (l : List (List UInt8)) (w : World) (ha : Slc w va l) (hll : l.length ≤ 9223372036854775807) :
    Calls Tryd.prog 29 #[va] w fun e w' => ∃ v, e = .returned v ∧ Own w' w.heap.size v (svs (tx l (min l.length 8))) ∧ Below w.heap.size w w' := by
  obtain ⟨a, ca, rfl, ha⟩ := ha
  have Ha := hid ha
  clear ha
  go_enter Tryd.func29, Tryd.ntmps29
  go_wp2
  go_loopw [3, 4] (fun out i w' => ∃ k : Nat, k ≤ l.length ∧ k ≤ 8 ∧ i = .int .i64 k ∧ Hid (Own w' w.heap.size out (svs (tx l k))) ∧ Hid (Below w.heap.size w w')) (fun _ i _ => l.length - (intOf i).toNat)
  case atStart => exact ⟨0, by omega, by omega, rfl, hid (Own.nil _ _), hid (Below.refl _ _)⟩
  case round =>
    obtain ⟨k, hk, hk8, rfl, Ho, hb⟩ := hrel
    by_cases hlt : k < l.length
    · by_cases h8 : k < 8
      · have b0 : (k : Int) < (l.length : Int) := by omega
        have b8 : (k : Int) < 8 := by omega
        obtain ⟨x, rfl, xb, hx⟩ := Ha.out k l[k] (List.getElem?_eq_getElem hlt)
        rw [← hb.out.cell (p := x.add k) (by rw [add_block]; exact xb)] at hx
        obtain ⟨p, hp, hpl⟩ := sv_str l[k]
        rw [hp] at hx
        have hts := hid (tx_succ l k hlt)
        have htl := tx_len l k hk
        rw [← hpl] at hts
        have hpz := data_length p
        clear hp xb
        by_cases h20 : p.size ≤ 20
        · have b1 : ¬ (20 : Int) < (p.size : Int) := by omega
          have htk : p.data.toList.take 20 = p.data.toList := List.take_of_length_le (by omega)
          rw [htk] at hts
          obtain ⟨v5, w5, hcc, g1, g2, g3⟩ := app_txt _ w.heap.size _ (tx l k) (.string p) p.data.toList (sv_of p) Ho.out (by omega) hb.out.size
          have O5 : Hid (Own w5 w.heap.size v5 (svs (tx l (k + 1)))) := hid (by rw [hts.out]; exact g1)
          have B5 : Hid (Below w.heap.size w w5) := hid (hb.out.trans (g2.below hb.out.size (fun j hj e => by have := Ho.out.ge j e; omega)))
          clear g1 g2 g3 htk hpz hpl
          go_wp2_with (at_builtin; go_must (refine Lib.wpList_append_run _ rfl _ _ 46 46 rfl _ _ rfl rfl _ _ hcc ?_))
          first | exact ⟨⟨k + 1, by omega, by omega, by go_num, O5, B5⟩, by simp [intOf]; omega⟩ | (refine ⟨?_, by simp [intOf]; omega⟩; (repeat apply Exists.intro); exact ⟨⟨k + 1, by omega, by omega, by go_num, O5, B5⟩, rfl⟩)
        · have b1 : (20 : Int) < (p.size : Int) := by omega
          have b2 : (20 : Int) ≤ (p.size : Int) := by omega
          obtain ⟨v5, w5, hcc, g1, g2, g3⟩ := app_txt _ w.heap.size _ (tx l k) (.string (p.extract 0 20)) (p.data.toList.take 20) (sv_take p 20) Ho.out (by omega) hb.out.size
          have O5 : Hid (Own w5 w.heap.size v5 (svs (tx l (k + 1)))) := hid (by rw [hts.out]; exact g1)
          have B5 : Hid (Below w.heap.size w w5) := hid (hb.out.trans (g2.below hb.out.size (fun j hj e => by have := Ho.out.ge j e; omega)))
          clear g1 g2 g3 hpz hpl
          go_wp2_with (at_builtin; go_must (refine Lib.wpList_append_run _ rfl _ _ 46 46 rfl _ _ rfl rfl _ _ hcc ?_))
          first | exact ⟨⟨k + 1, by omega, by omega, by go_num, O5, B5⟩, by simp [intOf]; omega⟩ | (refine ⟨?_, by simp [intOf]; omega⟩; (repeat apply Exists.intro); exact ⟨⟨k + 1, by omega, by omega, by go_num, O5, B5⟩, rfl⟩)
      · have b0 : (k : Int) < (l.length : Int) := by omega
        have b8 : ¬ (k : Int) < 8 := by omega
        have hm : Hid (min l.length 8 = k) := hid (by omega)
        go_wp2
        go_ret
        exact ⟨_, rfl, by rw [hm.out]; exact Ho.out, hb.out⟩
    · have b0 : ¬ (k : Int) < (l.length : Int) := by omega
      have hm : Hid (min l.length 8 = k) := hid (by omega)
      go_wp2
      go_ret
      exact ⟨_, rfl, by rw [hm.out]; exact Ho.out, hb.out⟩
end Go.Proofs.YtonmhimoglgbgaaDoor

namespace Go.Proofs.YtonmhimoglgbgaaDoor
open Go.RowKit Cod

/-- thirty-two bytes of a text -/
def h32 (p : List UInt8) : List UInt8 := p.take 32 ++ List.replicate (32 - p.length) 0
theorem h32_len (p : List UInt8) : (h32 p).length = 32 := by simp [h32]; omega
def hx (l : List (List UInt8)) (k : Nat) : List (List UInt8) := (l.take k).map h32
theorem hx_len (l : List (List UInt8)) (k : Nat) (h : k ≤ l.length) : (hx l k).length = k := by simp [hx]; omega
theorem hx_succ (l : List (List UInt8)) (k : Nat) (h : k < l.length) : hx l (k + 1) = hx l k ++ [h32 l[k]] := by
  rw [hx, hx, List.take_add_one, List.getElem?_eq_getElem h, List.map_append]; rfl
theorem info5z : (Tryd.prog.info? 5).map (·.size) = some 1 := by kernel_rfl
theorem make32 (w : World) : (Instr.makeSlice 57 (.int .i64 32) (.int .i64 32)).run Tryd.prog w = .ok (.slice (some ⟨w.heap.size, 0, none⟩) 32 32) (w.alloc (.cells (bv (List.replicate 32 0)).toArray 5)) := by
  obtain ⟨i0, hi, hz0, hz1, hz2⟩ := info_parts info5'
  have h := run_make (P := Tryd.prog) w 57 5 i0 (.int .u8 0) Tryd.underlying57 hi hz0 .i64 .i64 32 32 (by omega) (by omega) (by rw [hz2]; decide) (by omega)
  rw [hz1] at h
  have e : madeCells (Value.int .u8 0).cells (Int.toNat 32 * 1) = (bv (List.replicate 32 0)).toArray := by
    apply Array.ext'
    have h1 : (madeCells (Value.int .u8 0).cells (Int.toNat 32 * 1)).toList = List.replicate (Int.toNat 32 * 1) (.int .u8 0) := toList_madeCells_one _ _
    rw [h1, bv, List.map_replicate]
    rfl
  rw [e] at h
  exact h
theorem copy32 (w : World) (p : ByteArray) : ∃ (c : Int) (w2 : World), (Builtin.copy_ #[57, 9] 3 #[.slice (some ⟨w.heap.size, 0, none⟩) 32 32, .string p]).run Tryd.prog (w.alloc (.cells (bv (List.replicate 32 0)).toArray 5)) = .ok (.int .i64 c) w2 ∧
    (convert 57 9 (.slice (some ⟨w.heap.size, 0, none⟩) 32 32)).run Tryd.prog w2 = .ok (sv (h32 p.data.toList)) w2 ∧ Below w.heap.size w w2 := by
  have hg := heap_alloc_new w (.cells (bv (List.replicate 32 0)).toArray 5)
  have e := run_copy_min (P := Tryd.prog) _ 57 9 3 5 w.heap.size 0 32 32 p _ _ Tryd.underlying57 info5z hg (by simp [bv]; omega)
  have hrow := setRow_heap _ w.heap.size _ ((bv (List.replicate 32 0)).toArray.toList.take 0 ++ bv (p.data.toList.take (min p.size 32)) ++ (bv (List.replicate 32 0)).toArray.toList.drop (0 + min p.size 32)).toArray _ _ hg
  have hbs : (bv (List.replicate 32 0)).toArray.toList.take 0 ++ bv (p.data.toList.take (min p.size 32)) ++ (bv (List.replicate 32 0)).toArray.toList.drop (0 + min p.size 32) = bv (h32 p.data.toList) := by
    have hz := data_length p
    have h1 : p.data.toList.take (min p.size 32) = p.data.toList.take 32 := by rw [← hz, Nat.min_comm, ← List.take_take, List.take_length]
    have h2 : (bv (List.replicate 32 0)).drop (min p.size 32) = bv (List.replicate (32 - p.data.toList.length) 0) := by
      have h3 : 32 - min p.size 32 = 32 - p.size := by omega
      rw [bv, bv, List.map_replicate, List.map_replicate, List.drop_replicate, hz, h3]
    rw [h32, bv_append, List.take_zero, List.nil_append, Nat.zero_add, h1, h2]
  refine ⟨_, _, e, ?_, (((But.refl w.heap.size w).below (Nat.le_refl _) (Nat.le_refl _)).alloc (Nat.le_refl _) _).trans (((But.refl w.heap.size _).setRow _).below (Nat.le_refl _) (by rw [size_alloc]; omega))⟩
  rw [hbs] at hrow ⊢
  exact run_conv_bytes (P := Tryd.prog) _ 57 9 5 w.heap.size 0 32 32 (h32 p.data.toList) (h32_len _) Tryd.underlying57 Tryd.underlying5 Tryd.underlying9 (fun j v hv => by
    rw [cell_of_row _ _ _ _ _ _ hrow, Nat.zero_add]; simpa using hv)
end Go.Proofs.YtonmhimoglgbgaaDoor

namespace Go.Proofs.YtonmhimoglgbgaaDoor
open Go.RowKit Cod

set_option maxRecDepth 100000 in
set_option maxHeartbeats 800000 in
theorem hashes_any (va : Value) (l : List (List UInt8)) (w : World) (ha : Slc w va l) (hll : l.length ≤ 9223372036854775807) :
    Calls Tryd.prog 31 #[va] w fun e w' => ∃ v, e = .returned v ∧ Own w' w.heap.size v (svs (hx l (min l.length 8))) ∧ Below w.heap.size w w' := by
  obtain ⟨a, ca, rfl, ha⟩ := ha
  have Ha := hid ha
  clear ha
  go_enter Tryd.func31, Tryd.ntmps31
  go_wp2
  go_loopw [3, 4] (fun out i w' => ∃ k : Nat, k ≤ l.length ∧ k ≤ 8 ∧ i = .int .i64 k ∧ Hid (Own w' w.heap.size out (svs (hx l k))) ∧ Hid (Below w.heap.size w w')) (fun _ i _ => l.length - (intOf i).toNat)
  case atStart => exact ⟨0, by omega, by omega, rfl, hid (Own.nil _ _), hid (Below.refl _ _)⟩
  case round =>
    obtain ⟨k, hk, hk8, rfl, Ho, hb⟩ := hrel
    by_cases hlt : k < l.length
    · by_cases h8 : k < 8
      · have b0 : (k : Int) < (l.length : Int) := by omega
        have b8 : (k : Int) < 8 := by omega
        obtain ⟨x, rfl, xb, hx0⟩ := Ha.out k l[k] (List.getElem?_eq_getElem hlt)
        obtain ⟨p, hp, hpl⟩ := sv_str l[k]
        rw [hp] at hx0
        have hmk := make32 wr
        obtain ⟨c, w2, hcp, hcv, hb2⟩ := copy32 wr p
        have hx1 : (wr.alloc (.cells (bv (List.replicate 32 0)).toArray 5)).cell? (x.add k) = some (.string p) := by
          rw [(hb.out.alloc hb.out.size _).cell (p := x.add k) (by rw [add_block]; exact xb)]; exact hx0
        have hts := hid (hx_succ l k hlt)
        have htl := hx_len l k hk
        rw [← hpl] at hts
        obtain ⟨q, hq, hql⟩ := sv_str (h32 p.data.toList)
        rw [hq] at hcv
        obtain ⟨v5, w5, hcc, g1, g2, g3⟩ := app_txt w2 w.heap.size _ (hx l k) (.string q) (h32 p.data.toList) hq (Ho.out.below hb2 (Nat.le_refl _)) (by omega) (Nat.le_trans hb.out.size hb2.size)
        have O5 : Hid (Own w5 w.heap.size v5 (svs (hx l (k + 1)))) := hid (by rw [hts.out]; exact g1)
        have B5 : Hid (Below w.heap.size w w5) := hid ((hb.out.trans (hb2.mono hb.out.size)).trans (g2.below (Nat.le_trans hb.out.size hb2.size) (fun j hj e => by have := Ho.out.ge j e; omega)))
        generalize wr.alloc (.cells (bv (List.replicate 32 0)).toArray 5) = w1 at *
        clear g1 g2 g3 hpl hp hq hql hx0 xb hb2 htl
        go_wp2_with first
          | (at_builtin; go_must (refine Lib.wpList_append_run _ rfl _ _ 46 46 rfl _ _ rfl rfl _ _ hcc ?_))
        exact ⟨⟨k + 1, by omega, by omega, by go_num, O5, B5⟩, by simp [intOf]; omega⟩
      · have b0 : (k : Int) < (l.length : Int) := by omega
        have b8 : ¬ (k : Int) < 8 := by omega
        have hm : Hid (min l.length 8 = k) := hid (by omega)
        go_wp2
        go_ret
        exact ⟨_, rfl, by rw [hm.out]; exact Ho.out, hb.out⟩
    · have b0 : ¬ (k : Int) < (l.length : Int) := by omega
      have hm : Hid (min l.length 8 = k) := hid (by omega)
      go_wp2
      go_ret
      exact ⟨_, rfl, by rw [hm.out]; exact Ho.out, hb.out⟩
end Go.Proofs.YtonmhimoglgbgaaDoor

