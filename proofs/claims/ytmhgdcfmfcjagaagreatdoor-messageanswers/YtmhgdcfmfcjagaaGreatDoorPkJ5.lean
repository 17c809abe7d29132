import Derived.Test.YtmhgdcfmfcjagaaGreatDoorPkE1
namespace Go.Proofs.YtmhgdcfmfcjagaaGreatDoor
open Go.RowKit Cod
set_option maxRecDepth 100000 in
set_option maxHeartbeats 2000000 in
theorem textsAt_any (s : ByteArray) (many most : Int) (w : World) (hs : s.size ≤ 9223372036854775807) (hB : s.size ≤ 8796093022000 ∨ many ≤ 8796093022000) :
    Calls Tryz.prog 199 #[.string s, .int .i64 many, .int .i64 most] w (LPost svs w (rdTexts s.data.toList many most)) := by
  rw [rdTexts]
  by_cases h0 : most < 0
  · rw [if_pos h0]
    go_enter Tryz.func199, Tryz.ntmps199
    go_wp2
    go_ret3
    exact ⟨rfl, Below.refl _ _⟩
  rw [if_neg h0]
  have hN := manyAt_any s many w (by unfold maxLen; omega)
  have hnz := nz_many s.data.toList many
  cases hR : rdMany s.data.toList many with
  | bad e =>
    rw [hR] at hN
    simp only [tupN] at hN
    have he := hnz e hR
    have he' : ((e : Int) == 0) = false := by simp; omega
    clear hR hnz
    rw [Rd.bind_bad]
    go_enter Tryz.func199, Tryz.ntmps199
    go_wp2_with (go_at_call 124; refine hN.mono ?_; rintro x w1 ⟨rfl, h1⟩; have H1 := hid h1; clear h1)
    go_ret3
    exact ⟨rfl, H1.out⟩
  | good n r =>
    rw [hR] at hN
    simp only [tupN] at hN
    obtain ⟨hr1, hn62⟩ := many_len hR
    rw [data_length] at hr1
    have hBn : s.size ≤ 8796093022000 ∨ n ≤ 8796093022000 := by have := many_most hR; omega
    clear hR hnz
    rw [Rd.bind_good]
    obtain ⟨R, hRR⟩ : ∃ R, Hid (rdTextsN most n [] r = R) := ⟨_, rfl⟩
    rw [hRR.out]
    go_enter Tryz.func199, Tryz.ntmps199
    go_wp2_with (go_at_call 124; refine hN.mono ?_; rintro x w1 ⟨rfl, h1⟩; have H1 := hid h1; clear h1)
    clear hN
    go_loopw [10, 12, 27] (fun re l i w' => ∃ (k : Nat) (l' : List (List UInt8)) (r' : List UInt8), k ≤ n ∧ i = .int .i64 k ∧ re = sv r' ∧ l'.length = k ∧ r'.length + k ≤ s.size ∧ Hid (Own w' w.heap.size l (svs l')) ∧ Hid (rdTextsN most (n - k) l' r' = R) ∧ Hid (Below w.heap.size w w')) (fun _ _ i _ => n - (intOf i).toNat)
    case atStart => exact ⟨0, [], r, by omega, rfl, rfl, rfl, by omega, hid (show Own _ _ _ (svs []) from Own.nil _ _), hRR, H1⟩
    case round =>
      obtain ⟨k, l', r', hk, rfl, rfl, hl', hr', ho, hr, hb⟩ := hrel
      by_cases hlt : k < n
      · have hlt' : (k : Int) < (n : Int) := by omega
        have hN := textAt_sv r' most wr (by unfold maxLen; omega)
        have hr2 := hr.out
        obtain ⟨m, hm⟩ : ∃ m, n - k = m + 1 := ⟨n - k - 1, by omega⟩
        rw [hm, rdTextsN] at hr2
        cases hq : rdText r' most with
        | bad e =>
          have he := nz_text r' most e hq
          have he' : ((e : Int) == 0) = false := by simp; omega
          rw [hq, Rd.bind_bad] at hr2
          rw [hq] at hN
          simp only [tupS] at hN
          subst hr2
          clear hq
          go_wp2_with (go_at_call 104; refine hN.mono ?_; rintro x w2 ⟨rfl, h2⟩; have H2 := hid (hb.out.trans (h2.mono hb.out.size)); clear h2)
          go_ret3
          exact ⟨rfl, H2.out⟩
        | good a r2 =>
          have hlen := text_len hq
          rw [hq, Rd.bind_good] at hr2
          rw [hq] at hN
          simp only [tupS] at hN
          clear hq
          have HR2 := hid hr2
          clear hr2
          obtain ⟨ab, hab⟩ : ∃ ab, Hid (sv a = .string ab) := ⟨_, rfl⟩
          rw [hab.out] at hN
          go_wp2_with (first
            | (go_at_call 104; refine hN.mono ?_; rintro x w2 ⟨rfl, h2⟩; have H2 := hid (hb.out.trans (h2.mono hb.out.size)); have O2 := hid (ho.out.below h2 (Nat.le_refl _)); clear h2; obtain ⟨v3, w3, hcc, g1, g2, g3⟩ := app_txt w2 w.heap.size _ l' (.string ab) a hab.out O2.out (by omega) H2.out.size; have G1 := hid g1; have G2 := hid (below_new H2.out O2.out g2); clear g1 g2 g3)
            | (at_builtin; go_must (refine Lib.wpList_append_run _ rfl _ _ 23 23 rfl _ _ rfl rfl _ _ hcc ?_)))
          refine ⟨⟨k + 1, l' ++ [a], r2, by omega, by go_num, rfl, by rw [List.length_append]; simp [hl'], by omega, G1, ?_, G2⟩, by simp [intOf]; omega⟩
          show _ = R
          rw [show n - (k + 1) = m from by omega]; exact HR2.out
      · obtain rfl : k = n := by omega
        have hr2 := hr.out
        rw [Nat.sub_self, rdTextsN] at hr2
        subst hr2
        go_wp2
        go_ret3
        exact ⟨⟨_, rfl, ho.out⟩, hb.out⟩
set_option maxRecDepth 100000 in
set_option maxHeartbeats 2000000 in
theorem hashesAt_any (s : ByteArray) (many : Int) (w : World) (hs : s.size ≤ 9223372036854775807) (hB : s.size ≤ 8796093022000 ∨ many ≤ 8796093022000) :
    Calls Tryz.prog 192 #[.string s, .int .i64 many] w (LPost svs w (rdHashes s.data.toList many)) := by
  rw [rdHashes]
  have hN := manyAt_any s many w (by unfold maxLen; omega)
  have hnz := nz_many s.data.toList many
  cases hR : rdMany s.data.toList many with
  | bad e =>
    rw [hR] at hN
    simp only [tupN] at hN
    have he := hnz e hR
    have he' : ((e : Int) == 0) = false := by simp; omega
    clear hR hnz
    rw [Rd.bind_bad]
    go_enter Tryz.func192, Tryz.ntmps192
    go_wp2_with (go_at_call 124; refine hN.mono ?_; rintro x w1 ⟨rfl, h1⟩; have H1 := hid h1; clear h1)
    go_ret3
    exact ⟨rfl, H1.out⟩
  | good n r =>
    rw [hR] at hN
    simp only [tupN] at hN
    obtain ⟨hr1, hn62⟩ := many_len hR
    rw [data_length] at hr1
    have hBn : s.size ≤ 8796093022000 ∨ n ≤ 8796093022000 := by have := many_most hR; omega
    clear hR hnz
    rw [Rd.bind_good]
    have hz := sv_size r
    have hd := sv_data r
    rw [sv] at hN
    obtain ⟨b, hbb⟩ : ∃ b : ByteArray, ByteArray.mk r.toArray = b := ⟨_, rfl⟩
    rw [hbb] at hz hd hN
    clear hbb
    rw [← hz]
    subst hd
    clear hz
    rw [data_length] at hr1
    by_cases hc : b.size / 32 < n
    · rw [if_pos hc]
      have b0 : (b.size : Int) / 32 < (n : Int) := by omega
      go_enter Tryz.func192, Tryz.ntmps192
      go_wp2_with (go_at_call 124; refine hN.mono ?_; rintro x w1 ⟨rfl, h1⟩; have H1 := hid h1; clear h1)
      go_ret3
      exact ⟨rfl, H1.out⟩
    · rw [if_neg hc]
      have b0 : ¬ (b.size : Int) / 32 < (n : Int) := by omega
      have hb1 : n * 32 ≤ b.size := by omega
      obtain ⟨R, hRR⟩ : ∃ R, Hid (rdHashN n [] b.data.toList = R) := ⟨_, rfl⟩
      rw [hRR.out]
      go_enter Tryz.func192, Tryz.ntmps192
      go_wp2_with (go_at_call 124; refine hN.mono ?_; rintro x w1 ⟨rfl, h1⟩; have H1 := hid h1; clear h1)
      clear hN
      go_loopw [8, 10, 27] (fun re l i w' => ∃ (k : Nat) (l' : List (List UInt8)) (c : ByteArray), k ≤ n ∧ i = .int .i64 k ∧ re = .string c ∧ l'.length = k ∧ c.size + k * 32 = b.size ∧ Hid (Own w' w.heap.size l (svs l')) ∧ Hid (rdHashN (n - k) l' c.data.toList = R) ∧ Hid (Below w.heap.size w w')) (fun _ _ i _ => n - (intOf i).toNat)
      case atStart => exact ⟨0, [], b, by omega, rfl, rfl, rfl, by omega, hid (show Own _ _ _ (svs []) from Own.nil _ _), hRR, H1⟩
      case round =>
        obtain ⟨k, l', c, hk, rfl, rfl, hl', hr', ho, hr, hb⟩ := hrel
        by_cases hlt : k < n
        · have hlt' : (k : Int) < (n : Int) := by omega
          have hc32 : 32 ≤ c.size := by omega
          have hc32' : (32 : Int) ≤ (c.size : Int) := by omega
          have hr2 := hr.out
          obtain ⟨m, hm⟩ : ∃ m, n - k = m + 1 := ⟨n - k - 1, by omega⟩
          rw [hm, rdHashN] at hr2
          obtain ⟨v3, w3, hcc, g1, g2, g3⟩ := app_txt wr w.heap.size _ l' (.string (c.extract 0 32)) (c.data.toList.take 32) (sv_take c 32) ho.out (by omega) hb.out.size
          have G1 := hid g1
          have G2 := hid (below_new hb.out ho.out g2)
          clear g1 g2 g3
          have hds : (c.extract 32 c.size).data.toList = c.data.toList.drop 32 := by rw [Lib.extract_data, List.take_of_length_le (by rw [List.length_drop, data_length]; omega)]
          have hsz : (c.extract 32 c.size).size = c.size - 32 := by rw [← data_length, hds, List.length_drop, data_length]
          have HR2 : Hid (rdHashN m (l' ++ [c.data.toList.take 32]) (c.extract 32 c.size).data.toList = R) := by rw [hds]; exact hr2
          have HS := hid hsz
          clear hr2 hds hsz
          go_wp2_with (at_builtin; go_must (refine Lib.wpList_append_run _ rfl _ _ 23 23 rfl _ _ rfl rfl _ _ hcc ?_))
          refine ⟨⟨k + 1, _, c.extract 32 c.size, by omega, by go_num, rfl, by rw [List.length_append]; simp [hl'], by rw [HS.out]; omega, G1, ?_, G2⟩, by simp [intOf]; omega⟩
          show _ = R
          rw [show n - (k + 1) = m from by omega]; exact HR2.out
        · obtain rfl : k = n := by omega
          have hr2 := hr.out
          rw [Nat.sub_self, rdHashN] at hr2
          subst hr2
          go_wp2
          go_ret3
          refine ⟨⟨_, ?_, ho.out⟩, hb.out⟩
          rw [sv_of]
          rfl
end Go.Proofs.YtmhgdcfmfcjagaaGreatDoor

namespace Go.Proofs.YtmhgdcfmfcjagaaGreatDoor
open Go.RowKit Cod
structure RS where
  rest : List UInt8
  taken : Nat
  err : Int
def RS.step {α : Type} (st : RS) (x : Rd α) : RS :=
  if st.err = 0 then (match x with
    | .bad e => ⟨st.rest, st.taken, (e : Int)⟩
    | .good _ r => ⟨r, st.taken + (st.rest.length - r.length), 0⟩) else st
def RS.val {α : Type} (st : RS) (d : α) (x : Rd α) : α :=
  if st.err = 0 then (match x with
    | .bad _ => d
    | .good v _ => v) else d
def RS.wrong (st : RS) : Value := if st.err = 0 then .nilIface else flt st.err (st.taken : Int)
def Rdr (w : World) (b : Nat) (st : RS) : Prop :=
  w.heap[b]? = some (.cells #[sv st.rest, .int .i64 (st.taken : Int), st.wrong] 126 (0, 0)) ∧ st.taken + st.rest.length ≤ 9223372036854775807
theorem Rdr.lt {w : World} {b : Nat} {st : RS} (h : Rdr w b st) : b < w.heap.size := lt_of_heap h.1
theorem Rdr.keep {S : Nat → Prop} {w w' : World} {b : Nat} {st : RS} (h : Rdr w b st) (hb : Keep S w w') (hne : ¬ S b) : Rdr w' b st := ⟨(hb.block b h.lt hne).trans h.1, h.2⟩
theorem Rdr.below {w w' : World} {b : Nat} {st : RS} (h : Rdr w b st) (hb : Below w.heap.size w w') : Rdr w' b st := ⟨(hb.block b h.lt).trans h.1, h.2⟩
theorem row3_set (w : World) (b i : Nat) (x y z u : Value) (t : TypeId) (cs : Array Value) (hc : #[x, y, z].setIfInBounds i u = cs) (h : w.heap[b]? = some (.cells #[x, y, z] t (0, 0))) : (w.setCell ⟨b, i, none⟩ u).heap[b]? = some (.cells cs t (0, 0)) := by
  rw [heap_setCell_same _ _ _ _ _ _ h, hc]
theorem step_bad {α : Type} {st : RS} {x : Rd α} (h : st.err ≠ 0) : st.step x = st := by unfold RS.step; exact if_neg h
theorem val_bad {α : Type} {st : RS} {d : α} {x : Rd α} (h : st.err ≠ 0) : st.val d x = d := by unfold RS.val; exact if_neg h
set_option maxRecDepth 100000 in
theorem newReader_any (s : ByteArray) (hs : s.size ≤ maxLen) (w : World) :
    Calls Tryz.prog 50 #[.string s] w fun r w' => r = .returned (.pointer (some ⟨w.heap.size, 0, none⟩)) ∧ Rdr w' w.heap.size ⟨s.data.toList, 0, 0⟩ ∧ Below w.heap.size w w' ∧ w'.heap.size = w.heap.size + 1 := by
  go_enter Tryz.func50, Tryz.ntmps50
  go_wp2
  go_ret
  refine ⟨rfl, ⟨?_, ?_⟩, (Below.refl _ _).alloc (Nat.le_refl _) _, size_alloc _ _⟩
  · rw [sv_of]; exact heap_alloc_new w _
  · unfold maxLen at hs; rw [data_length]; simp; omega
def RS.done (st : RS) : Int := if st.err = 0 then (if st.rest.length = 0 then 0 else 24) else st.err
set_option maxRecDepth 100000 in
set_option maxHeartbeats 1000000 in
theorem rDone_any (b : Nat) (st : RS) (w : World) (T : Lay w) (h : Rdr w b st) :
    Calls Tryz.prog 87 #[.pointer (some ⟨b, 0, none⟩)] w fun r w' => r = .returned (.tuple #[.int .i64 st.done, .int .i64 (st.taken : Int)]) ∧ Below w.heap.size w w' := by
  have hT := T.lt
  have bw : Below w.heap.size w (w.alloc (.cells #[.int .i64 0, .int .i64 0] 137)) := (Below.refl _ _).alloc (Nat.le_refl _) _
  have W1 := h.below bw
  have T1 := hid (T.below bw hT)
  have hrow := heap_alloc_new w (.cells #[.int .i64 0, .int .i64 0] 137)
  have hsz := size_alloc w (.cells #[.int .i64 0, .int .i64 0] 137)
  have BW := hid bw
  clear h T bw
  by_cases he : st.err = 0
  · have c2 : (w.alloc (.cells #[.int .i64 0, .int .i64 0] 137)).cell? ⟨b, 2, none⟩ = some .nilIface := by rw [cell_of_row _ _ _ _ _ _ W1.1, RS.wrong, if_pos he]; rfl
    have c1 : (w.alloc (.cells #[.int .i64 0, .int .i64 0] 137)).cell? ⟨b, 1, none⟩ = some (.int .i64 (st.taken : Int)) := by rw [cell_of_row _ _ _ _ _ _ W1.1]; rfl
    have c0 : (w.alloc (.cells #[.int .i64 0, .int .i64 0] 137)).cell? ⟨b, 0, none⟩ = some (.string ⟨st.rest.toArray⟩) := by rw [cell_of_row _ _ _ _ _ _ W1.1]; rfl
    have hz := sv_size st.rest
    rw [RS.done, if_pos he, ← hz]
    generalize ByteArray.mk st.rest.toArray = rb at *
    clear W1 hz hrow
    by_cases h0 : rb.size = 0
    · rw [if_pos h0]
      have b0 : ¬ (0 : Int) < (rb.size : Int) := by omega
      have Hh := hid h0
      clear h0
      go_enter Tryz.func87, Tryz.ntmps87
      go_wp2_with (go_at_call 93; refine (as_nil _ _).mono ?_; rintro e w' ⟨rfl, hw'⟩; rw [hw']; clear hw' w')
      go_quiet (fail)
      go_wp2
      go_ret2
      exact ⟨rfl, below_drewN BW.out _⟩
    · rw [if_neg h0]
      have b0 : (0 : Int) < (rb.size : Int) := by omega
      go_enter Tryz.func87, Tryz.ntmps87
      go_wp2_with (go_at_call 93; refine (as_nil _ _).mono ?_; rintro e w' ⟨rfl, hw'⟩; rw [hw']; clear hw' w')
      go_quiet (fail)
      go_wp2
      go_ret2
      exact ⟨rfl, below_drewN BW.out _⟩
  · have c2 : (w.alloc (.cells #[.int .i64 0, .int .i64 0] 137)).cell? ⟨b, 2, none⟩ = some (.iface 137 (.agg #[.int .i64 st.err, .int .i64 (st.taken : Int)])) := by rw [cell_of_row _ _ _ _ _ _ W1.1, RS.wrong, if_neg he]; rfl
    rw [RS.done, if_neg he]
    generalize st.err = f at *
    generalize (st.taken : Int) = tk at *
    have HR := hid hrow
    clear W1 hrow
    go_enter Tryz.func87, Tryz.ntmps87
    go_wp2_with (go_at_call 93; fail)
    go_at_call 93
    refine (as_hit f tk w.heap.size _ _ _ T1.out HR.out).mono ?_
    rintro e w2 ⟨rfl, h1, h2⟩
    have d0 : w2.cell? ⟨w.heap.size, 0, none⟩ = some (.int .i64 f) := by rw [cell_of_row _ _ _ _ _ _ h1]; rfl
    have d1 : w2.cell? ⟨w.heap.size, 1, none⟩ = some (.int .i64 tk) := by rw [cell_of_row _ _ _ _ _ _ h1]; rfl
    have B2 := hid (BW.out.trans (h2.below (Nat.le_refl _) (by omega)))
    clear h1 h2 c2
    go_wp2
    go_quiet (fail)
    go_wp2
    go_ret2
    exact ⟨rfl, below_drewN B2.out _⟩
end Go.Proofs.YtmhgdcfmfcjagaaGreatDoor

namespace Go.Proofs.YtmhgdcfmfcjagaaGreatDoor
open Go.RowKit Cod
theorem step_badx {α : Type} {st : RS} {e : Nat} (h : st.err = 0) : st.step (Rd.bad e : Rd α) = ⟨st.rest, st.taken, (e : Int)⟩ := by unfold RS.step; exact if_pos h
theorem val_badx {α : Type} {st : RS} {d : α} {e : Nat} (h : st.err = 0) : st.val d (Rd.bad e : Rd α) = d := by unfold RS.val; exact if_pos h
theorem step_good {α : Type} {st : RS} {v : α} {r : List UInt8} (h : st.err = 0) : st.step (Rd.good v r) = ⟨r, st.taken + (st.rest.length - r.length), 0⟩ := by unfold RS.step; exact if_pos h
theorem val_good {α : Type} {st : RS} {d v : α} {r : List UInt8} (h : st.err = 0) : st.val d (Rd.good v r) = v := by unfold RS.val; exact if_pos h
abbrev RowOf (w : World) (b : Nat) (st : RS) : Prop := w.heap[b]? = some (.cells #[sv st.rest, .int .i64 (st.taken : Int), st.wrong] 126 (0, 0))
theorem rdr_bad {w1 : World} {b : Nat} {st : RS} {e : Nat} (h : RowOf w1 b st) (hbd : st.taken + st.rest.length ≤ 9223372036854775807) (he : 0 < e) :
    Rdr (w1.setCell ⟨b, 2, none⟩ (.iface 137 (.agg #[.int .i64 (e : Int), .int .i64 (st.taken : Int)]))) b ⟨st.rest, st.taken, (e : Int)⟩ := by
  refine ⟨row3_set _ _ _ _ _ _ _ _ _ ?_ h, hbd⟩
  have hne : ¬ e = 0 := by omega
  simp [RS.wrong, hne, flt]
theorem rdr_good {w1 : World} {b : Nat} {st : RS} {r : List UInt8} {r2 : ByteArray} {tk2 : Nat} (h : RowOf w1 b st) (he : st.err = 0) (hr2 : sv r = .string r2) (htk : st.taken + (st.rest.length - r.length) = tk2) (hbd : st.taken + st.rest.length ≤ 9223372036854775807) (hlen : r.length ≤ st.rest.length) :
    Rdr ((w1.setCell ⟨b, 1, none⟩ (.int .i64 (tk2 : Int))).setCell ⟨b, 0, none⟩ (.string r2)).drew b ⟨r, st.taken + (st.rest.length - r.length), 0⟩ := by
  subst htk
  rw [← hr2]
  refine ⟨?_, by show st.taken + (st.rest.length - r.length) + r.length ≤ _; omega⟩
  rw [heap_drew]
  rw [RowOf, RS.wrong, if_pos he] at h
  exact row3_set _ _ _ _ _ _ _ _ _ rfl (row3_set _ _ _ _ _ _ _ _ _ rfl h)
theorem but_good {w w1 : World} {b : Nat} (h : Below w.heap.size w w1) (x y : Value) : But b w ((w1.setCell ⟨b, 1, none⟩ x).setCell ⟨b, 0, none⟩ y).drew := (((But.ofBelow h).setCell 1 x).setCell 0 y).drew
theorem own_good {w1 : World} {B b : Nat} {v : Value} {cs : List Value} (h : Own w1 B v cs) (hb : b < B) (x y : Value) : Own ((w1.setCell ⟨b, 1, none⟩ x).setCell ⟨b, 0, none⟩ y).drew B v cs := by
  refine h.but ((((But.refl b w1).setCell 1 x).setCell 0 y).drew) (fun e => ?_)
  have := h.ge b e
  omega
set_option maxRecDepth 100000 in
set_option maxHeartbeats 1000000 in
theorem take_byte (b : Nat) (st : RS) (x : Rd (Nat)) (w : World) (hF : Calls Tryz.prog 186 #[sv st.rest] w fun r w' => r = .returned (tupN x) ∧ Below w.heap.size w w')
    (hx : ∀ v r, x = .good v r → r.length ≤ st.rest.length) (hnz : NZ x) (h : Rdr w b st) :
    Calls Tryz.prog 185 #[.pointer (some ⟨b, 0, none⟩), .func (.func 186) #[] #[]] w fun r w' => r = .returned (.int .i64 ((st.val 0 x : Nat) : Int)) ∧ Rdr w' b (st.step x) ∧ But b w w' := by
  have hl := h.lt
  have c0 : w.cell? ⟨b, 0, none⟩ = some (sv st.rest) := by rw [cell_of_row _ _ _ _ _ _ h.1]; rfl
  have c1 : w.cell? ⟨b, 1, none⟩ = some (.int .i64 (st.taken : Int)) := by rw [cell_of_row _ _ _ _ _ _ h.1]; rfl
  have c2 : w.cell? ⟨b, 2, none⟩ = some st.wrong := by rw [cell_of_row _ _ _ _ _ _ h.1]; rfl
  have hrow := hid h.1
  have hbd := h.2
  have h := hid h
  by_cases he : st.err = 0
  · rw [RS.wrong, if_pos he] at c2
    cases x with
    | bad e =>
      have hz := hnz e rfl
      have he' : ((e : Int) == 0) = false := by simp; omega
      rw [step_badx he, val_badx he]
      clear hx hnz
      simp only [tupN] at hF
      go_enter Tryz.func185, Tryz.ntmps185
      go_wp2_with (go_at_call 186; refine hF.mono ?_; rintro y w1 ⟨rfl, h1⟩; have H1 := hid h1; have d0 : w1.cell? ⟨b, 0, none⟩ = some (sv st.rest) := (h1.cell (p := ⟨b, 0, none⟩) hl).trans c0; have d1 : w1.cell? ⟨b, 1, none⟩ = some (.int .i64 (st.taken : Int)) := (h1.cell (p := ⟨b, 1, none⟩) hl).trans c1; have d2 : w1.cell? ⟨b, 2, none⟩ = some .nilIface := (h1.cell (p := ⟨b, 2, none⟩) hl).trans c2; have R1 := hid ((h1.block b hl).trans hrow.out); have f2 : w1.frozen? ⟨b, 2, none⟩ = false := frozen_of_row _ _ _ _ _ R1.out; clear h1)
      go_ret
      exact ⟨rfl, rdr_bad R1.out hbd hz, (But.ofBelow H1.out).setCell 2 _⟩
    | good v r =>
      have hlen := hx v r rfl
      rw [step_good he, val_good he]
      have hz1 := sv_size st.rest
      have hz2 := sv_size r
      obtain ⟨rb, hrb⟩ : ∃ rb, Hid (ByteArray.mk st.rest.toArray = rb) := ⟨_, rfl⟩
      obtain ⟨r2, hr2⟩ : ∃ r2, Hid (ByteArray.mk r.toArray = r2) := ⟨_, rfl⟩
      rw [hrb.out] at hz1
      rw [hr2.out] at hz2
      have e1 : sv st.rest = .string rb := by rw [sv, hrb.out]
      have e2 : sv r = .string r2 := by rw [sv, hr2.out]
      have E1 := hid e1
      have E2 := hid e2
      rw [e1] at c0
      clear hx hnz
      obtain ⟨tk, htk⟩ : ∃ tk : Nat, Hid (st.taken = tk) := ⟨_, rfl⟩
      obtain ⟨tk2, htk2⟩ : ∃ tk2 : Nat, Hid (st.taken + (st.rest.length - r.length) = tk2) := ⟨_, rfl⟩
      have htk3 : (tk : Int) + ((rb.size : Int) - (r2.size : Int)) = (tk2 : Int) := by rw [← htk.out, ← htk2.out, hz1, hz2]; omega
      rw [htk.out] at c1
      have b1 : (r2.size : Int) ≤ (rb.size : Int) := by rw [hz1, hz2]; omega
      have b2 : (tk : Int) + (rb.size : Int) ≤ 9223372036854775807 := by rw [← htk.out, hz1]; omega
      have b3 : (tk2 : Int) ≤ 9223372036854775807 := by omega
      simp only [tupN] at hF
      rw [e2, e1] at hF
      have Hbd := hid hbd
      have Hlen := hid hlen
      clear e1 e2 hlen hz1 hz2 hbd
      go_enter Tryz.func185, Tryz.ntmps185
      go_wp2_with (go_at_call 186; fail)
      go_at_call 186
      refine hF.mono ?_
      rintro y w1 ⟨rfl, h1⟩
      have H1 := hid h1
      have d0 : w1.cell? ⟨b, 0, none⟩ = some (.string rb) := (h1.cell (p := ⟨b, 0, none⟩) hl).trans c0
      have d1 : w1.cell? ⟨b, 1, none⟩ = some (.int .i64 (tk : Int)) := (h1.cell (p := ⟨b, 1, none⟩) hl).trans c1
      have R1 := hid ((h1.block b hl).trans hrow.out)
      have f0 : w1.frozen? ⟨b, 0, none⟩ = false := frozen_of_row _ _ _ _ _ R1.out
      have f1 : w1.frozen? ⟨b, 1, none⟩ = false := frozen_of_row _ _ _ _ _ R1.out
      clear h1 c0 c1 c2 hF
      go_wp2
      go_region
      go_wp2
      go_ret
      exact ⟨rfl, rdr_good R1.out he E2.out htk2.out Hbd.out Hlen.out, but_good H1.out _ _⟩
  · rw [step_bad he, val_bad he]
    rw [RS.wrong, if_neg he, flt] at c2
    clear hF hnz hx
    go_enter Tryz.func185, Tryz.ntmps185
    go_wp2
    go_ret
    exact ⟨rfl, h.out, But.refl _ _⟩
set_option maxRecDepth 100000 in
set_option maxHeartbeats 1000000 in
theorem take_num (b : Nat) (st : RS) (x : Rd (Nat)) (w : World) (hF : Calls Tryz.prog 129 #[sv st.rest] w fun r w' => r = .returned (tupN x) ∧ Below w.heap.size w w')
    (hx : ∀ v r, x = .good v r → r.length ≤ st.rest.length) (hnz : NZ x) (h : Rdr w b st) :
    Calls Tryz.prog 185 #[.pointer (some ⟨b, 0, none⟩), .func (.func 129) #[] #[]] w fun r w' => r = .returned (.int .i64 ((st.val 0 x : Nat) : Int)) ∧ Rdr w' b (st.step x) ∧ But b w w' := by
  have hl := h.lt
  have c0 : w.cell? ⟨b, 0, none⟩ = some (sv st.rest) := by rw [cell_of_row _ _ _ _ _ _ h.1]; rfl
  have c1 : w.cell? ⟨b, 1, none⟩ = some (.int .i64 (st.taken : Int)) := by rw [cell_of_row _ _ _ _ _ _ h.1]; rfl
  have c2 : w.cell? ⟨b, 2, none⟩ = some st.wrong := by rw [cell_of_row _ _ _ _ _ _ h.1]; rfl
  have hrow := hid h.1
  have hbd := h.2
  have h := hid h
  by_cases he : st.err = 0
  · rw [RS.wrong, if_pos he] at c2
    cases x with
    | bad e =>
      have hz := hnz e rfl
      have he' : ((e : Int) == 0) = false := by simp; omega
      rw [step_badx he, val_badx he]
      clear hx hnz
      simp only [tupN] at hF
      go_enter Tryz.func185, Tryz.ntmps185
      go_wp2_with (go_at_call 129; refine hF.mono ?_; rintro y w1 ⟨rfl, h1⟩; have H1 := hid h1; have d0 : w1.cell? ⟨b, 0, none⟩ = some (sv st.rest) := (h1.cell (p := ⟨b, 0, none⟩) hl).trans c0; have d1 : w1.cell? ⟨b, 1, none⟩ = some (.int .i64 (st.taken : Int)) := (h1.cell (p := ⟨b, 1, none⟩) hl).trans c1; have d2 : w1.cell? ⟨b, 2, none⟩ = some .nilIface := (h1.cell (p := ⟨b, 2, none⟩) hl).trans c2; have R1 := hid ((h1.block b hl).trans hrow.out); have f2 : w1.frozen? ⟨b, 2, none⟩ = false := frozen_of_row _ _ _ _ _ R1.out; clear h1)
      go_ret
      exact ⟨rfl, rdr_bad R1.out hbd hz, (But.ofBelow H1.out).setCell 2 _⟩
    | good v r =>
      have hlen := hx v r rfl
      rw [step_good he, val_good he]
      have hz1 := sv_size st.rest
      have hz2 := sv_size r
      obtain ⟨rb, hrb⟩ : ∃ rb, Hid (ByteArray.mk st.rest.toArray = rb) := ⟨_, rfl⟩
      obtain ⟨r2, hr2⟩ : ∃ r2, Hid (ByteArray.mk r.toArray = r2) := ⟨_, rfl⟩
      rw [hrb.out] at hz1
      rw [hr2.out] at hz2
      have e1 : sv st.rest = .string rb := by rw [sv, hrb.out]
      have e2 : sv r = .string r2 := by rw [sv, hr2.out]
      have E1 := hid e1
      have E2 := hid e2
      rw [e1] at c0
      clear hx hnz
      obtain ⟨tk, htk⟩ : ∃ tk : Nat, Hid (st.taken = tk) := ⟨_, rfl⟩
      obtain ⟨tk2, htk2⟩ : ∃ tk2 : Nat, Hid (st.taken + (st.rest.length - r.length) = tk2) := ⟨_, rfl⟩
      have htk3 : (tk : Int) + ((rb.size : Int) - (r2.size : Int)) = (tk2 : Int) := by rw [← htk.out, ← htk2.out, hz1, hz2]; omega
      rw [htk.out] at c1
      have b1 : (r2.size : Int) ≤ (rb.size : Int) := by rw [hz1, hz2]; omega
      have b2 : (tk : Int) + (rb.size : Int) ≤ 9223372036854775807 := by rw [← htk.out, hz1]; omega
      have b3 : (tk2 : Int) ≤ 9223372036854775807 := by omega
      simp only [tupN] at hF
      rw [e2, e1] at hF
      have Hbd := hid hbd
      have Hlen := hid hlen
      clear e1 e2 hlen hz1 hz2 hbd
      go_enter Tryz.func185, Tryz.ntmps185
      go_wp2_with (go_at_call 129; fail)
      go_at_call 129
      refine hF.mono ?_
      rintro y w1 ⟨rfl, h1⟩
      have H1 := hid h1
      have d0 : w1.cell? ⟨b, 0, none⟩ = some (.string rb) := (h1.cell (p := ⟨b, 0, none⟩) hl).trans c0
      have d1 : w1.cell? ⟨b, 1, none⟩ = some (.int .i64 (tk : Int)) := (h1.cell (p := ⟨b, 1, none⟩) hl).trans c1
      have R1 := hid ((h1.block b hl).trans hrow.out)
      have f0 : w1.frozen? ⟨b, 0, none⟩ = false := frozen_of_row _ _ _ _ _ R1.out
      have f1 : w1.frozen? ⟨b, 1, none⟩ = false := frozen_of_row _ _ _ _ _ R1.out
      clear h1 c0 c1 c2 hF
      go_wp2
      go_region
      go_wp2
      go_ret
      exact ⟨rfl, rdr_good R1.out he E2.out htk2.out Hbd.out Hlen.out, but_good H1.out _ _⟩
  · rw [step_bad he, val_bad he]
    rw [RS.wrong, if_neg he, flt] at c2
    clear hF hnz hx
    go_enter Tryz.func185, Tryz.ntmps185
    go_wp2
    go_ret
    exact ⟨rfl, h.out, But.refl _ _⟩
end Go.Proofs.YtmhgdcfmfcjagaaGreatDoor
