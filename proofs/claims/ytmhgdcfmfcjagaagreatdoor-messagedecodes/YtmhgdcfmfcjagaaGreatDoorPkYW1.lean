import Derived.Test.YtmhgdcfmfcjagaaGreatDoorPkP1
namespace Go.Proofs.YtmhgdcfmfcjagaaGreatDoor
open Go.RowKit Cod

/-- the document's Writer lies in block x -/
def RWr (w : World) (x : Nat) (S : List UInt8) (E : Int) : Prop := w.heap[x]? = some (.cells #[sv S, .int .i64 E] 109 (0, 0))
theorem RWr.lt {w : World} {x : Nat} {S : List UInt8} {E : Int} (h : RWr w x S E) : x < w.heap.size := lt_of_heap h
theorem RWr.keep {K : Nat → Prop} {w w' : World} {x : Nat} {S : List UInt8} {E : Int} (h : RWr w x S E) (hb : Keep K w w') (hne : ¬ K x) : RWr w' x S E := (hb.block x h.lt hne).trans h
theorem RWr.below {w w' : World} {x : Nat} {S : List UInt8} {E : Int} (h : RWr w x S E) (hb : Below w.heap.size w w') : RWr w' x S E := (hb.block x h.lt).trans h
/-- what is wrong first -/
def fstE (E e : Int) : Int := if E = 0 then e else E
theorem RWr.cell0 {w : World} {x : Nat} {S : List UInt8} {E : Int} (h : RWr w x S E) : w.cell? ⟨x, 0, none⟩ = some (sv S) := by rw [cell_of_row _ _ _ _ _ _ h]; rfl
theorem RWr.cell1 {w : World} {x : Nat} {S : List UInt8} {E : Int} (h : RWr w x S E) : w.cell? ⟨x, 1, none⟩ = some (.int .i64 E) := by rw [cell_of_row _ _ _ _ _ _ h]; rfl
theorem RWr.set0 {w : World} {x : Nat} {S S' : List UInt8} {E : Int} (h : RWr w x S E) : RWr (w.setCell ⟨x, 0, none⟩ (sv S')) x S' E := row2_set0 h
theorem RWr.drew {w : World} {x : Nat} {S : List UInt8} {E : Int} (h : RWr w x S E) : RWr w.drew x S E := h

set_option maxRecDepth 100000 in
theorem rnewWriter_any (w : World) :
    Calls Tryz.prog 34 #[] w fun r w' => r = .returned (.pointer (some ⟨w.heap.size, 0, none⟩)) ∧ RWr w' w.heap.size [] 0 ∧ Below w.heap.size w w' ∧ w'.heap.size = w.heap.size + 1 := by
  go_enter Tryz.func34, Tryz.ntmps34
  go_wp2
  go_ret
  exact ⟨rfl, heap_alloc_new w _, (Below.refl _ _).alloc (Nat.le_refl _) _, size_alloc _ _⟩
set_option maxRecDepth 100000 in
set_option maxHeartbeats 400000 in
theorem wrong_any (x : Nat) (S : List UInt8) (E e : Int) (w : World) (h : RWr w x S E) :
    Calls Tryz.prog 96 #[.pointer (some ⟨x, 0, none⟩), .int .i64 e] w fun r w' => r = .returned (.tuple #[]) ∧ RWr w' x S (fstE E e) ∧ But x w w' := by
  have c1 := h.cell1
  have f1 : w.frozen? ⟨x, 1, none⟩ = false := frozen_of_row _ _ _ _ _ h
  have H := hid h
  clear h
  by_cases hE : E = 0
  · subst hE
    go_enter Tryz.func96, Tryz.ntmps96
    go_wp2
    go_end0
    exact ⟨rfl, by rw [fstE, if_pos rfl]; exact row2_set1 H.out, (But.refl x w).setCell 1 _⟩
  · have hE' : (E == 0) = false := by simp; exact hE
    go_enter Tryz.func96, Tryz.ntmps96
    go_wp2
    go_end0
    exact ⟨rfl, by rw [fstE, if_neg hE]; exact H.out, But.refl x w⟩
set_option maxRecDepth 100000 in
theorem may_any (n : Int) (w : World) : Calls Tryz.prog 97 #[.int .i64 n] w fun r w' => r = .returned (.bool (decide (0 ≤ n ∧ n ≤ 4611686018427387904))) ∧ w' = w := by
  by_cases h : 0 ≤ n
  · by_cases h3 : n ≤ 4611686018427387904
    · have e : decide (0 ≤ n ∧ n ≤ 4611686018427387904) = true := decide_eq_true ⟨h, h3⟩
      rw [e]
      go_enter Tryz.func97, Tryz.ntmps97
      go_wp2
      go_ret
      exact ⟨rfl, rfl⟩
    · have e : decide (0 ≤ n ∧ n ≤ 4611686018427387904) = false := decide_eq_false (by omega)
      rw [e]
      go_enter Tryz.func97, Tryz.ntmps97
      go_wp2
      go_ret
      exact ⟨rfl, rfl⟩
  · have e : decide (0 ≤ n ∧ n ≤ 4611686018427387904) = false := decide_eq_false (by omega)
    have h' : n < 0 := by omega
    rw [e]
    go_enter Tryz.func97, Tryz.ntmps97
    go_wp2
    go_ret
    exact ⟨rfl, rfl⟩
/-- what a call of it leaves -/
def RPut (w : World) (x : Nat) (S : List UInt8) (E e : Int) (l : List UInt8) (r : Ending) (w' : World) : Prop :=
  r = .returned (.tuple #[]) ∧ RWr w' x (if e = 0 then S ++ l else S) (if e = 0 then E else fstE E e) ∧ But x w w'
set_option maxRecDepth 100000 in
set_option maxHeartbeats 1000000 in
theorem xwRaw_any (x : Nat) (S : List UInt8) (E : Int) (s : ByteArray) (w : World) (h : RWr w x S E) (hl : S.length + s.size ≤ 9223372036854775807) :
    Calls Tryz.prog 79 #[.pointer (some ⟨x, 0, none⟩), .string s] w (RPut w x S E 0 s.data.toList) := by
  have c0 := h.cell0
  have f0 : w.frozen? ⟨x, 0, none⟩ = false := frozen_of_row _ _ _ _ _ h
  have hadd := add_sv Tryz.prog 9 S s.data.toList (by rw [data_length]; exact hl)
  rw [sv_of] at hadd
  have H := hid h
  clear h
  obtain ⟨z, hz⟩ : ∃ z, Hid (sv (S ++ s.data.toList) = .string z) := ⟨_, rfl⟩
  rw [hz.out] at hadd
  go_enter Tryz.func79, Tryz.ntmps79
  go_wp2
  go_end0
  refine ⟨rfl, ?_, (But.refl x w).setCell 0 _⟩
  rw [if_pos rfl, if_pos rfl, ← hz.out]
  exact H.out.set0
theorem one_byte_drew (w : World) (x : UInt8) (z : Int) (hz : z = (x.toNat : Int)) :
    (convert 91 9 (.slice (some ⟨w.heap.size, 0, none⟩) 1 1)).run Tryz.prog (w.alloc (.cells #[.int .u8 z] 5)).drew = .ok (sv [x]) (w.alloc (.cells #[.int .u8 z] 5)).drew := by
  subst hz
  refine run_conv_bytes (P := Tryz.prog) _ 91 9 5 w.heap.size 0 1 1 [x] rfl Tryz.underlying91 Tryz.underlying5 Tryz.underlying9 (fun j v hv => ?_)
  show (w.alloc (.cells #[.int .u8 (x.toNat : Int)] 5)).cell? _ = _
  rw [cell_of_row _ _ _ _ _ _ (heap_alloc_new w _), Nat.zero_add]
  match j, hv with
  | 0, hv => obtain rfl := Option.some.inj hv; rfl
theorem undrew {w w1 : World} (h : Below w.drew.heap.size w.drew w1) : Below w.heap.size w w1 := ⟨h.os, h.tape, h.output, h.size, h.block⟩
theorem rput_no {w w1 : World} {x : Nat} {S l : List UInt8} {E e : Int} (he : e ≠ 0) (h1 : RWr w1 x S (fstE E e)) (h2 : But x w w1) : RPut w x S E e l (.returned (.tuple #[])) w1 :=
  ⟨rfl, by rw [if_neg he, if_neg he]; exact h1, h2⟩
theorem rput_yes {w w1 : World} {x : Nat} {S l : List UInt8} {E : Int} {z : Value} (h : RWr w x S E) (hz : sv (S ++ l) = z) (hb : Below w.heap.size w w1) : RPut w x S E 0 l (.returned (.tuple #[])) (w1.setCell ⟨x, 0, none⟩ z) := by
  subst hz
  refine ⟨rfl, ?_, (But.ofBelow hb).setCell 0 _⟩
  rw [if_pos rfl, if_pos rfl]
  exact (h.below hb).set0
theorem rput_alloc {w : World} {x : Nat} {S l : List UInt8} {E : Int} {z : Value} (h : RWr w x S E) (hz : sv (S ++ l) = z) (o : Obj) : RPut w x S E 0 l (.returned (.tuple #[])) ((w.setCell ⟨x, 0, none⟩ z).alloc o).drew := by
  subst hz
  have hlt := h.lt
  have hs : (w.setCell ⟨x, 0, none⟩ (sv (S ++ l))).heap.size = w.heap.size := by simp [World.setCell]
  refine ⟨rfl, ?_, ?_⟩
  · rw [if_pos rfl, if_pos rfl]
    show ((w.setCell ⟨x, 0, none⟩ (sv (S ++ l))).alloc o).heap[x]? = _
    rw [Below.heap_alloc _ _ _ (by rw [hs]; exact hlt)]
    exact row2_set0 h
  · refine But.drew (But.trans ((But.refl x w).setCell 0 (sv (S ++ l))) (But.ofBelow ?_))
    exact (Below.refl _ _).alloc (Nat.le_refl _) _
set_option maxRecDepth 100000 in
set_option maxHeartbeats 2000000 in
theorem xwNum_any (x : Nat) (S : List UInt8) (E n : Int) (h1 : -9223372036854775808 ≤ n) (h2 : n ≤ 9223372036854775807) (w : World) (h : RWr w x S E) (hl : S.length ≤ 9223372036854775000) :
    Calls Tryz.prog 71 #[.pointer (some ⟨x, 0, none⟩), .int .i64 n] w (RPut w x S E (numErr n) (digs n.toNat)) := by
  by_cases he : numErr n = 0
  · have hn : 0 ≤ n ∧ n ≤ 4611686018427387904 := by
      rw [numErr] at he
      split at he
      · cases he
      · omega
    obtain ⟨m, rfl⟩ := Int.eq_ofNat_of_zero_le hn.1
    have e : decide (0 ≤ (m : Int) ∧ (m : Int) ≤ 4611686018427387904) = true := decide_eq_true hn
    have h9 := digs_len9 (n := m) (by omega)
    have hx := h.lt
    have c0 := h.cell0
    have f0 : w.frozen? ⟨x, 0, none⟩ = false := frozen_of_row _ _ _ _ _ h
    have hD := fun w => digits_any m (by omega) w
    have hadd := add_sv Tryz.prog 9 S (digs m) (by omega)
    obtain ⟨z, hz⟩ : ∃ z, Hid (sv (S ++ digs m) = .string z) := ⟨_, rfl⟩
    rw [hz.out] at hadd
    have H := hid h
    have HD := hid hD
    rw [he, Int.toNat_natCast]
    clear h hD h9 hn
    go_enter Tryz.func71, Tryz.ntmps71
    go_wp2_with (go_at_call 97; refine (may_any (m : Int) _).mono ?_; rw [e]; rintro y w' ⟨rfl, hw'⟩; rw [hw']; clear hw' w')
    go_region_with ((go_at_call 73; refine (HD.out _).mono ?_; rintro y w1 ⟨rfl, k1⟩; have K1 := hid k1; have c1 := (k1.cell (p := ⟨x, 0, none⟩) hx).trans c0; have f1 := (k1.frozen (p := ⟨x, 0, none⟩) hx).trans f0; clear k1))
    all_goals go_end0
    all_goals exact rput_yes H.out hz.out (undrew K1.out)
  · have e : decide (0 ≤ n ∧ n ≤ 4611686018427387904) = false := decide_eq_false (by intro hh; exact he (by rw [numErr, if_neg (by omega)]))
    have e20 : numErr n = 20 := by
      rw [numErr] at he ⊢
      split at he
      · rw [if_pos (by assumption)]
      · exact absurd rfl he
    rw [e20]
    have H := hid h
    clear h he e20
    go_enter Tryz.func71, Tryz.ntmps71
    go_wp2_with (first
      | (go_at_call 97; refine (may_any n _).mono ?_; rw [e]; rintro y w' ⟨rfl, hw'⟩; rw [hw']; clear hw' w')
      | (go_at_call 96; refine (wrong_any x S E 20 _ H.out).mono ?_; rintro y w1 ⟨rfl, k1, k2⟩; have K1 := hid k1; have K2 := hid k2; clear k1 k2))
    go_end0
    exact rput_no (by omega) K1.out K2.out
set_option maxRecDepth 100000 in
set_option maxHeartbeats 2000000 in
theorem xwByte_any (x : Nat) (S : List UInt8) (E n : Int) (w : World) (h : RWr w x S E) (hl : S.length ≤ 9223372036854775000) :
    Calls Tryz.prog 69 #[.pointer (some ⟨x, 0, none⟩), .int .i64 n] w (RPut w x S E (byteErr n) [UInt8.ofNat n.toNat]) := by
  by_cases h0 : n < 0
  · have e20 : byteErr n = 20 := by rw [byteErr, if_pos (.inl h0)]
    rw [e20]
    have H := hid h
    clear h e20
    go_enter Tryz.func69, Tryz.ntmps69
    go_wp2_with (go_at_call 96; refine (wrong_any x S E 20 _ H.out).mono ?_; rintro y w1 ⟨rfl, k1, k2⟩; have K1 := hid k1; have K2 := hid k2; clear k1 k2)
    go_end0
    exact rput_no (by omega) K1.out K2.out
  by_cases h1 : 255 < n
  · have e20 : byteErr n = 20 := by rw [byteErr, if_pos (.inr h1)]
    rw [e20]
    have H := hid h
    clear h e20
    go_enter Tryz.func69, Tryz.ntmps69
    go_wp2_with (go_at_call 96; refine (wrong_any x S E 20 _ H.out).mono ?_; rintro y w1 ⟨rfl, k1, k2⟩; have K1 := hid k1; have K2 := hid k2; clear k1 k2)
    go_end0
    exact rput_no (by omega) K1.out K2.out
  · have e0 : byteErr n = 0 := by rw [byteErr, if_neg (by omega)]
    rw [e0]
    obtain ⟨u, hu⟩ : ∃ u, Hid (UInt8.ofNat n.toNat = u) := ⟨_, rfl⟩
    have hun : n = (u.toNat : Int) := by rw [← hu.out]; simp; omega
    rw [hu.out]
    have hx := h.lt
    have c0 := h.cell0
    have f0 : w.frozen? ⟨x, 0, none⟩ = false := frozen_of_row _ _ _ _ _ h
    have n0 : 0 ≤ n := by omega
    have n1 : n < 256 := by omega
    have hcv := one_byte_drew w u n hun
    have hadd := add_sv Tryz.prog 9 S [u] (by simp; omega)
    obtain ⟨z, hz⟩ : ∃ z, Hid (sv (S ++ [u]) = .string z) := ⟨_, rfl⟩
    rw [hz.out] at hadd
    have H := hid h
    have cA : (w.alloc (.cells #[.int .u8 n] 5)).cell? ⟨x, 0, none⟩ = some (sv S) := (World.cell?_alloc_lt _ _ ⟨x, 0, none⟩ hx).trans c0
    have fA : (w.alloc (.cells #[.int .u8 n] 5)).frozen? ⟨x, 0, none⟩ = false := (World.frozen?_alloc_old _ _ ⟨x, 0, none⟩ (Nat.ne_of_lt hx)).trans f0
    clear h e0 hun
    go_enter Tryz.func69, Tryz.ntmps69
    go_wp2
    go_region
    all_goals go_end0
    all_goals exact rput_alloc H.out hz.out _
end Go.Proofs.YtmhgdcfmfcjagaaGreatDoor

namespace Go.Proofs.YtmhgdcfmfcjagaaGreatDoor
open Go.RowKit Cod

set_option maxRecDepth 100000 in
set_option maxHeartbeats 1000000 in
theorem xwDone_any (x : Nat) (S : List UInt8) (E : Int) (w : World) (h : RWr w x S E) :
    Calls Tryz.prog 36 #[.pointer (some ⟨x, 0, none⟩)] w fun r w' => r = .returned (.tuple #[sv (if E = 0 then S else []), .int .i64 E]) ∧ Below w.heap.size w w' := by
  have c0 := h.cell0
  have c1 := h.cell1
  clear h
  by_cases hE : E = 0
  · subst hE
    rw [if_pos rfl]
    go_enter Tryz.func36, Tryz.ntmps36
    go_wp2
    go_ret2
    exact ⟨rfl, Below.refl _ _⟩
  · rw [if_neg hE]
    have hE' : (E == 0) = false := by simp; exact hE
    have hE2 : (E != 0) = true := by simp; exact hE
    go_enter Tryz.func36, Tryz.ntmps36
    go_wp2
    go_quiet (fail)
    go_wp2
    go_ret2
    exact ⟨rfl, below_drewN (Below.refl _ _) _⟩
set_option maxRecDepth 100000 in
set_option maxHeartbeats 2000000 in
theorem xwRising_any (x : Nat) (S : List UInt8) (E : Int) (u : Value) (l : List Int) (hb : ∀ c ∈ l, -9223372036854775808 ≤ c ∧ c ≤ 9223372036854775807) (hll : l.length ≤ 1000000000) (w : World) (hs : SlcI w u l) (h : RWr w x S E) (hl : S.length ≤ 4611686018427000000) :
    Calls Tryz.prog 72 #[.pointer (some ⟨x, 0, none⟩), u] w (RPut w x S E (risingErr l) (wrRising (l.map Int.toNat))) := by
  have hx := h.lt
  have H := hid h
  have HS := hid hs
  have HB := hid hb
  obtain ⟨a, cap, rfl, _⟩ := hs
  have hD := digits_any l.length (by omega) w
  have hd10 := digs_len9 (n := l.length) (by omega)
  clear h hb
  go_enter Tryz.func72, Tryz.ntmps72
  go_wp2_with (go_at_call 73; refine hD.mono ?_; rintro y w1 ⟨rfl, k1⟩; have K1 := hid k1; clear k1)
  clear hD
  go_loopw [4, 5, 6] (fun s la i w' => ∃ (k L : Nat) (t : List UInt8), k ≤ l.length ∧ i = .int .i64 k ∧ la = .int .i64 ((L : Int) - 1) ∧ L ≤ 4611686018427387905 ∧ s = sv t ∧ t.length ≤ 9 + 9 * k ∧ Hid (risesB ((L : Int) - 1) (l.drop k) = risesB (-1) l) ∧ Hid (risesB (-1) l = true → t ++ wrRise L ((l.drop k).map Int.toNat) = wrRising (l.map Int.toNat)) ∧ Hid (Below w.heap.size w w')) (fun _ _ i _ => l.length - (intOf i).toNat)
  case atStart => exact ⟨0, 0, _, by omega, rfl, rfl, by omega, rfl, by omega, hid rfl, hid (fun _ => by rw [List.drop_zero, wrRising, List.length_map]), K1⟩
  case round =>
    obtain ⟨k, L, t, hk, rfl, rfl, hL, rfl, htl, hr, ht, hbl⟩ := hrel
    by_cases hlt : k < l.length
    · have hlt' : (k : Int) < (l.length : Int) := by omega
      obtain ⟨a', cap', hu, hcs⟩ := HS.out.keep (S := fun _ => False) (Keep.ofBelow hbl.out) (fun _ _ _ _ _ h => h)
      cases hu
      obtain ⟨xx, hxx, hxb, hc⟩ := hcs k _ (List.getElem?_eq_getElem hlt)
      subst hxx
      obtain ⟨g1, g2⟩ := HB.out _ (List.getElem_mem hlt)
      have hr2 := hr.out
      have ht2 := ht.out
      rw [List.drop_eq_getElem_cons hlt, risesB] at hr2
      rw [List.drop_eq_getElem_cons hlt, List.map_cons, wrRise_cons] at ht2
      generalize l[k] = c at *
      clear hcs
      have R1 := hid (H.out.below hbl.out)
      by_cases hn : 0 ≤ c ∧ c ≤ 4611686018427387904
      · have e : decide (0 ≤ c ∧ c ≤ 4611686018427387904) = true := decide_eq_true hn
        by_cases hLc : (L : Int) - 1 < c
        · rw [decide_eq_true ⟨hn.1, hn.2, hLc⟩, Bool.true_and] at hr2
          obtain ⟨m, rfl⟩ := Int.eq_ofNat_of_zero_le hn.1
          rw [Int.toNat_natCast] at ht2
          have b0 : ¬ (m : Int) ≤ (L : Int) - 1 := by omega
          have e1 : (m : Int) - ((L : Int) - 1) - 1 = ((m - L : Nat) : Int) := by omega
          have b1 : (m : Int) - ((L : Int) - 1) ≤ 9223372036854775807 := by omega
          have b2 : 0 ≤ (m : Int) - ((L : Int) - 1) := by omega
          have h9 := digs_len9 (n := m - L) (by omega)
          have hD2 := digits_any (m - L) (by omega) wr
          have hadd := add_sv Tryz.prog 9 t (digs (m - L)) (by omega)
          have HR2 := hid hr2
          have HT2 := hid ht2
          have h9' := hid h9
          have hm62 : m ≤ 4611686018427387904 := by omega
          clear hr2 ht2 hn h9
          go_wp2_with (first
            | (go_at_call 97; refine (may_any (m : Int) _).mono ?_; rw [e]; rintro y w' ⟨rfl, hw'⟩; rw [hw']; clear hw' w')
            | (go_at_call 73; fail))
          go_at_call 73
          first | refine hD2.mono ?_ | (rw [e1]; refine hD2.mono ?_)
          rintro y w2 ⟨rfl, k2⟩
          have K2 := hid (hbl.out.trans (k2.mono hbl.out.size))
          have c2 := (k2.cell (p := xx.add k) (by rw [add_block]; exact hxb)).trans hc
          clear k2
          go_wp2
          refine ⟨⟨k + 1, m + 1, _, by omega, by go_num, by go_num, by omega, rfl, ?_, ?_, ?_, K2⟩, by simp [intOf]; omega⟩
          · rw [List.length_append]; have := h9'.out; omega
          · show _ = _
            rw [show ((m + 1 : Nat) : Int) - 1 = (m : Int) from by omega]; exact HR2.out
          · exact hid (fun hh => by rw [List.append_assoc]; exact HT2.out hh)
        · have e20 : risingErr l = 20 := by
            rw [risingErr, ← hr2, decide_eq_false (by omega), Bool.false_and]; rfl
          rw [e20]
          have b0 : c ≤ (L : Int) - 1 := by omega
          clear hr2 ht2 hn e20
          go_wp2_with (first
            | (go_at_call 97; refine (may_any c _).mono ?_; rw [e]; rintro y w' ⟨rfl, hw'⟩; rw [hw']; clear hw' w')
            | (go_at_call 96; refine (wrong_any x S E 20 _ R1.out).mono ?_; rintro y w2 ⟨rfl, k1, k2⟩; have K3 := hid k1; have K4 := hid (But.below_trans hbl.out k2); clear k1 k2))
          go_end0
          exact rput_no (by omega) K3.out K4.out
      · have e : decide (0 ≤ c ∧ c ≤ 4611686018427387904) = false := decide_eq_false hn
        have e20 : risingErr l = 20 := by
          rw [risingErr, ← hr2, decide_eq_false (by omega), Bool.false_and]; rfl
        rw [e20]
        clear hr2 ht2 hn e20
        go_wp2_with (first
          | (go_at_call 97; refine (may_any c _).mono ?_; rw [e]; rintro y w' ⟨rfl, hw'⟩; rw [hw']; clear hw' w')
          | (go_at_call 96; refine (wrong_any x S E 20 _ R1.out).mono ?_; rintro y w2 ⟨rfl, k1, k2⟩; have K3 := hid k1; have K4 := hid (But.below_trans hbl.out k2); clear k1 k2))
        go_end0
        exact rput_no (by omega) K3.out K4.out
    · obtain rfl : k = l.length := by omega
      have hr2 := hr.out
      rw [List.drop_length, risesB] at hr2
      have e0 : risingErr l = 0 := by rw [risingErr, ← hr2]; rfl
      have ht2 := ht.out hr2.symm
      rw [List.drop_length, List.map_nil, wrRise, List.append_nil] at ht2
      subst ht2
      have E0 := hid e0
      have R1 := H.out.below hbl.out
      have c0 := R1.cell0
      have f0 : wr.frozen? ⟨x, 0, none⟩ = false := frozen_of_row _ _ _ _ _ R1
      have hadd := add_sv Tryz.prog 9 S (wrRising (l.map Int.toNat)) (by omega)
      obtain ⟨z, hz⟩ : ∃ z, Hid (sv (S ++ wrRising (l.map Int.toNat)) = .string z) := ⟨_, rfl⟩
      rw [hz.out] at hadd
      clear R1 hr2 e0
      go_wp2
      go_end0
      rw [E0.out]
      exact rput_yes H.out hz.out hbl.out
end Go.Proofs.YtmhgdcfmfcjagaaGreatDoor
