import Derived.Test.YtmhgdcfmfcjagaaGreatDoorPkMW12
import Derived.Test.YtmhgdcfmfcjagaaGreatDoorPkP1
import Derived.Test.YtmhgdcfmfcjagaaGreatDoorPkN6
namespace Go.Proofs.YtmhgdcfmfcjagaaGreatDoor
open Go.RowKit Cod
namespace Msg

/-- what the document's Encode answers -/
def encD (x : Ask) (l : List Ask) : Value := if wi x.kind 1 12 = true then frO (lRequest x l (.ok [], false)) else .tuple #[sv [], .int .i64 170]
/-- a request that may be handed to it: what it asks asks nothing further -/
structure Ra1 (w : World) (x : Ask) (l : List Ask) (ul ue ua : Value) : Prop where
  ak : Ak w w.heap.size x ul ue ua
  ft : Fit x
  ls : Aq w w.heap.size ua l
  ln : x.n = l.length
  lf : ∀ y ∈ l, Fit y ∧ y.n = 0
theorem right17_any {w : World} {x : Ask} {l : List Ask} {p1 p2 p3 : Option Addr} {q1 q2 q3 : Nat} (h : Ra1 w x l (.slice p1 x.list.length q1) (.slice p2 x.ent.length q2) (.slice p3 x.n q3)) :
    Calls Tryz.prog 33 #[.agg #[.int .i64 x.kind, .int .i64 x.a, .int .i64 x.b, .int .i64 x.size, .slice p1 x.list.length q1, .slice p2 x.ent.length q2, .slice p3 x.n q3]] w fun e w' => e = .returned (.bool (docR x l)) ∧ Below w.heap.size w w' := by
  by_cases hg : fw x.kind = [103]
  · rw [docR, if_pos hg]
    exact right17_many x l hg h.ln (fun y hy => ⟨(h.lf y hy).2, (h.lf y hy).1.ll, (h.lf y hy).1.el⟩) p1 p2 p3 q1 q2 q3 w h.ak.s1 h.ak.s2 h.ls h.ft.ll h.ft.el
  · rw [docR, if_neg hg]
    exact right17_leaf x (fun e => absurd e hg) p1 p2 p3 q1 q2 q3 w h.ak.s1 h.ak.s2 h.ft.ll h.ft.el
theorem Ra1.bl {w w' : World} {x : Ask} {l : List Ask} {ul ue ua : Value} (h : Ra1 w x l ul ue ua) (hb : Below w.heap.size w w') : Ra1 w' x l ul ue ua :=
  ⟨⟨h.ak.l1.monoA hb.size, h.ak.l2.monoA hb.size, h.ak.l1.slcI h.ak.s1 hb, h.ak.l2.slc h.ak.s2 hb, h.ak.s3⟩, h.ft, (h.ls.bl hb).mono hb.size, h.ln, h.lf⟩
set_option maxRecDepth 100000 in
set_option maxHeartbeats 8000000 in
theorem rencode17_any {w : World} {x : Ask} {l : List Ask} {ul ue ua : Value} (h : Ra1 w x l ul ue ua) :
    Calls Tryz.prog 10 #[akV x ul ue ua] w fun e w' => e = .returned (encD x l) ∧ Below w.heap.size w w' := by
  obtain ⟨p1, q1, rfl, _⟩ := id h.ak.s1
  obtain ⟨p2, q2, rfl, _⟩ := id h.ak.s2
  obtain ⟨p3, q3, rfl⟩ := id h.ak.s3
  have bA := (Below.refl w.heap.size w).alloc (Nat.le_refl _) (.cells #[.int .i64 x.kind, .int .i64 x.a, .int .i64 x.b, .int .i64 x.size, .slice p1 x.list.length q1, .slice p2 x.ent.length q2, .slice p3 x.n q3] 26)
  have rA := heap_alloc_new w (.cells #[.int .i64 x.kind, .int .i64 x.a, .int .i64 x.b, .int .i64 x.size, .slice p1 x.list.length q1, .slice p2 x.ent.length q2, .slice p3 x.n q3] 26)
  have zA := size_alloc w (.cells #[.int .i64 x.kind, .int .i64 x.a, .int .i64 x.b, .int .i64 x.size, .slice p1 x.list.length q1, .slice p2 x.ent.length q2, .slice p3 x.n q3] 26)
  have i0 := fun w => fields17_any x.kind w
  have i1 := right17_any (h.bl bA)
  have H := hid h
  have BA := hid bA
  have RA := hid rA
  rw [akV]
  by_cases hw : wi x.kind 1 12 = true
  · rw [encD, if_pos hw]
    have hne : fw x.kind ≠ [] := fun e => fw_nil.1 e hw
    obtain ⟨P, hP⟩ : ∃ P, Hid (sv (fw x.kind) = .string P) := ⟨_, rfl⟩
    rw [hP.out] at i0
    have ne : P.toList.isEmpty = false := by
      have h := hP.out
      unfold sv at h
      injection h with h
      rw [isEmpty_data, decide_eq_false]
      rw [← h, sv_size]
      exact fun e => hne (List.length_eq_zero_iff.1 e)
    cases hd : docR x l with
    | false =>
      have hno : ¬ ((lRequest x l (.ok [], false)).1.err = 0 ∧ (lRequest x l (.ok [], false)).2 = false) := fun e => by
        obtain ⟨p, hp⟩ := ws_some (nz_request x l _ nz_nil) e
        rw [(right_iff x l).2 ⟨p, hp⟩] at hd
        cases hd
      rw [frO, if_neg hno]
      rw [hd] at i1
      clear h bA rA hw hne hno hd
      go_enter Tryz.func10, Tryz.ntmps10
      go_wp2_with (first
        | (go_at_call 32; refine (i0 _).mono ?_; rintro e w' ⟨rfl, hw'⟩; rw [hw']; clear hw' w')
        | (go_at_call 33; refine i1.mono ?_; rintro e w1 ⟨rfl, g1⟩; have B1 := hid (BA.out.trans (g1.mono BA.out.size)); clear g1))
      go_ret2
      exact ⟨rfl, B1.out⟩
    | true =>
      obtain ⟨p, hp⟩ := (right_iff x l).1 hd
      have hpl := req_len H.out.ft (fun y hy => (H.out.lf y hy).1) hp
      rw [hp, frO, if_pos ⟨rfl, rfl⟩, if_neg (show ¬ 1048576 < (WSt.ok p).text.length from by show ¬ 1048576 < p.length; omega), show (WSt.ok p).text = p from rfl]
      rw [hd] at i1
      have HPQ := hid hp
      clear h bA rA hw hne hd hp
      go_enter Tryz.func10, Tryz.ntmps10
      go_wp2_with (first
        | (go_at_call 32; refine (i0 _).mono ?_; rintro e w' ⟨rfl, hw'⟩; rw [hw']; clear hw' w')
        | (go_at_call 33; fail))
      go_at_call 33
      refine i1.mono ?_
      rintro e w1 ⟨rfl, g1⟩
      have b1 := BA.out.trans (g1.mono BA.out.size)
      have R1 := (g1.block w.heap.size (by omega)).trans RA.out
      have z1 : w.heap.size < w1.heap.size := by have := g1.size; omega
      have i2 := rnewWriter_any w1
      have B1 := hid b1
      have RR1 := hid R1
      clear g1 b1 R1 i1
      go_wp2_with (go_at_call 34; fail)
      go_at_call 34
      refine i2.mono ?_
      rintro e w2 ⟨rfl, n1, n2, _⟩
      have b2 := B1.out.trans (n2.mono B1.out.size)
      have R2 := (n2.block _ z1).trans RR1.out
      obtain ⟨c0, c1, c2, c3, c4, c5, c6⟩ := rq_cells R2
      have hb := H.out.bl B1.out
      have hAk : Ak w2 w1.heap.size x (.slice p1 x.list.length q1) (.slice p2 x.ent.length q2) (.slice p3 x.n q3) := ⟨hb.ak.l1, hb.ak.l2, hb.ak.l1.slcI hb.ak.s1 n2, hb.ak.l2.slc hb.ak.s2 n2, hb.ak.s3⟩
      have i3 := lay17_any n1 (Nat.le_refl _) hAk hb.ft (hb.ls.bl n2) hb.ln (fun y hy => (hb.lf y hy).1) HPQ.out (by omega)
      rw [akV] at i3
      have B2 := hid b2
      have z2 : w1.heap.size ≤ w2.heap.size := n2.size
      clear n1 n2 b2 R2 hb hAk i2
      go_wp2_with (go_at_call 35; fail)
      go_at_call 35
      refine i3.mono ?_
      rintro e w3 ⟨rfl, l1, l2⟩
      have b3 : Below w.heap.size w w3 := B2.out.trans (l2.below (by omega) (fun k hk e => by omega))
      have i4 := xwDone_any w1.heap.size p 0 w3 l1
      rw [if_pos rfl, show sv p = .string ⟨p.toArray⟩ from rfl] at i4
      have i5 := fun w => rframe_any ⟨p.toArray⟩ w
      simp only [sv_size, if_neg (show ¬ 1048576 < p.length by omega)] at i5
      have B3 := hid b3
      clear l1 l2 b3 i3 c0 c1 c2 c3 c4 c5 c6
      go_wp2_with (first
        | (go_at_call 36; refine i4.mono ?_; rintro e w4 ⟨rfl, g4⟩; have B4 := hid (B3.out.trans (g4.mono B3.out.size)); clear g4)
        | (go_at_call 37; refine (i5 _).mono ?_; rintro e w5 ⟨rfl, g5⟩; have B5 := hid (B4.out.trans (g5.mono B4.out.size)); clear g5))
      go_ret2
      exact ⟨rfl, B5.out⟩
  · rw [encD, if_neg hw]
    rw [fw_nil.2 hw, show sv [] = .string ⟨#[]⟩ from rfl] at i0
    clear h bA rA hw i1
    go_enter Tryz.func10, Tryz.ntmps10
    go_wp2_with (go_at_call 32; refine (i0 _).mono ?_; rintro e w' ⟨rfl, hw'⟩; rw [hw']; clear hw' w')
    go_ret2
    exact ⟨rfl, BA.out⟩
end Msg
end Go.Proofs.YtmhgdcfmfcjagaaGreatDoor

namespace Go.Proofs.YtmhgdcfmfcjagaaGreatDoor
open Go.RowKit Cod

/-- the document's Reader of s, in block b -/
def XRd (w : World) (b : Nat) (s : ByteArray) (st : RS) : Prop :=
  w.heap[b]? = some (.cells #[.string s, .int .i64 (st.taken : Int), .int .i64 st.err] 122 (0, 0)) ∧ st.rest = s.data.toList.drop st.taken ∧ st.taken ≤ s.size ∧ s.size ≤ 1048576
theorem XRd.lt {w : World} {b : Nat} {s : ByteArray} {st : RS} (h : XRd w b s st) : b < w.heap.size := lt_of_heap h.1
theorem XRd.keep {S : Nat → Prop} {w w' : World} {b : Nat} {s : ByteArray} {st : RS} (h : XRd w b s st) (hb : Keep S w w') (hne : ¬ S b) : XRd w' b s st := ⟨(hb.block b h.lt hne).trans h.1, h.2⟩
theorem XRd.below {w w' : World} {b : Nat} {s : ByteArray} {st : RS} (h : XRd w b s st) (hb : Below w.heap.size w w') : XRd w' b s st := ⟨(hb.block b h.lt).trans h.1, h.2⟩
theorem XRd.len {w : World} {b : Nat} {s : ByteArray} {st : RS} (h : XRd w b s st) : st.rest.length = s.size - st.taken := by
  rw [h.2.1, List.length_drop, data_length]
/-- what a reading leaves is an end of the bytes -/
theorem rest_of {α : Type} {R : List UInt8 → Rd α} (hp : Pf R) {l : List UInt8} {a : Nat} {v : α} {r : List UInt8} (h : R (l.drop a) = .good v r) (ha : a ≤ l.length) : r = l.drop (l.length - r.length) ∧ r.length ≤ l.length - a := by
  obtain ⟨p, hp⟩ := hp.ends _ _ _ h
  have hl := congrArg List.length hp
  rw [List.length_drop, List.length_append] at hl
  refine ⟨?_, by omega⟩
  rw [show l.length - r.length = a + p.length from by omega, ← List.drop_drop, hp, List.drop_left]
/-- a call has come to its end -/
theorem XRd.good {α : Type} {R : List UInt8 → Rd α} (hp : Pf R) {w : World} {b : Nat} {s : ByteArray} {st : RS} (h : XRd w b s st) (he : st.err = 0) {v : α} {r : List UInt8} (hr : R st.rest = .good v r) :
    XRd (w.setCell ⟨b, 1, none⟩ (.int .i64 ((s.size - r.length : Nat) : Int))) b s (st.step (R st.rest)) := by
  obtain ⟨h1, h2, h3, h4⟩ := h
  have hd := data_length s
  have hr' := hr
  rw [h2] at hr'
  obtain ⟨e1, e2⟩ := rest_of hp hr' (by omega)
  rw [hd] at e1 e2
  rw [hr, step_good he]
  have hl : st.rest.length = s.size - st.taken := by rw [h2, List.length_drop, hd]
  have ht : st.taken + (st.rest.length - r.length) = s.size - r.length := by omega
  refine ⟨?_, ?_, ?_, h4⟩
  · rw [ht]
    rw [he] at h1
    exact row3_set _ _ _ _ _ _ _ _ _ rfl h1
  · show r = s.data.toList.drop (st.taken + (st.rest.length - r.length))
    rw [ht]; exact e1
  · show st.taken + (st.rest.length - r.length) ≤ s.size
    omega
/-- something was wrong with a call -/
theorem XRd.bad {α : Type} {x : Rd α} {w : World} {b : Nat} {s : ByteArray} {st : RS} (h : XRd w b s st) (he : st.err = 0) {e : Nat} (hx : x = .bad e) :
    XRd (w.setCell ⟨b, 2, none⟩ (.int .i64 (e : Int))) b s (st.step x) := by
  subst hx
  rw [step_badx he]
  exact ⟨row3_set _ _ _ _ _ _ _ _ _ rfl h.1, h.2⟩
theorem XRd.but1 (w : World) (b i : Nat) (v : Value) : But b w (w.setCell ⟨b, i, none⟩ v) := (But.refl b w).setCell i v
set_option maxRecDepth 100000 in
theorem ends_ok (b : Nat) (x y z : Value) (to_ : Int) (w : World) (h : w.heap[b]? = some (.cells #[x, y, z] 122 (0, 0))) :
    Calls Tryz.prog 102 #[.pointer (some ⟨b, 0, none⟩), .int .i64 to_, .int .i64 0] w fun r w' => r = .returned (.bool true) ∧ w' = w.setCell ⟨b, 1, none⟩ (.int .i64 to_) := by
  have c1 : w.cell? ⟨b, 1, none⟩ = some y := by rw [cell_of_row _ _ _ _ _ _ h]; rfl
  have f1 : w.frozen? ⟨b, 1, none⟩ = false := frozen_of_row _ _ _ _ _ h
  go_enter Tryz.func102, Tryz.ntmps102
  go_wp2
  go_ret
  exact ⟨rfl, rfl⟩
set_option maxRecDepth 100000 in
theorem ends_bad (b e : Nat) (x y z : Value) (to_ : Int) (w : World) (he : 0 < e) (h : w.heap[b]? = some (.cells #[x, y, z] 122 (0, 0))) :
    Calls Tryz.prog 102 #[.pointer (some ⟨b, 0, none⟩), .int .i64 to_, .int .i64 (e : Int)] w fun r w' => r = .returned (.bool false) ∧ w' = w.setCell ⟨b, 2, none⟩ (.int .i64 (e : Int)) := by
  have c1 : w.cell? ⟨b, 2, none⟩ = some z := by rw [cell_of_row _ _ _ _ _ _ h]; rfl
  have f1 : w.frozen? ⟨b, 2, none⟩ = false := frozen_of_row _ _ _ _ _ h
  have he' : ((e : Int) != 0) = true := by simp; omega
  have he2 : ((e : Int) == 0) = false := by simp; omega
  go_enter Tryz.func102, Tryz.ntmps102
  go_wp2
  go_ret
  exact ⟨rfl, rfl⟩
set_option maxRecDepth 100000 in
theorem xNew_any (s : ByteArray) (hs : s.size ≤ 1048576) (w : World) :
    Calls Tryz.prog 46 #[.string s] w fun r w' => r = .returned (.pointer (some ⟨w.heap.size, 0, none⟩)) ∧ XRd w' w.heap.size s ⟨s.data.toList, 0, 0⟩ ∧ Below w.heap.size w w' ∧ w'.heap.size = w.heap.size + 1 := by
  go_enter Tryz.func46, Tryz.ntmps46
  go_wp2
  go_ret
  exact ⟨rfl, ⟨heap_alloc_new w _, rfl, Nat.zero_le _, hs⟩, (Below.refl _ _).alloc (Nat.le_refl _) _, size_alloc _ _⟩
theorem below_same {w w' : World} (h : w'.heap = w.heap) (ho : w'.os = w.os) (ht : w'.tape = w.tape) (hu : w'.output = w.output) : Below w.heap.size w w' := ⟨ho, ht, hu, by rw [h]; exact Nat.le_refl _, fun k _ => by rw [h]⟩
set_option maxRecDepth 100000 in
set_option maxHeartbeats 1000000 in
theorem xDone_any (b : Nat) (s : ByteArray) (st : RS) (w : World) (h : XRd w b s st) :
    Calls Tryz.prog 48 #[.pointer (some ⟨b, 0, none⟩)] w fun r w' => r = .returned (.tuple #[.int .i64 st.done, .int .i64 (st.taken : Int)]) ∧ Below w.heap.size w w' := by
  have c0 : w.cell? ⟨b, 0, none⟩ = some (.string s) := by rw [cell_of_row _ _ _ _ _ _ h.1]; rfl
  have c1 : w.cell? ⟨b, 1, none⟩ = some (.int .i64 (st.taken : Int)) := by rw [cell_of_row _ _ _ _ _ _ h.1]; rfl
  have c2 : w.cell? ⟨b, 2, none⟩ = some (.int .i64 st.err) := by rw [cell_of_row _ _ _ _ _ _ h.1]; rfl
  have hl := h.len
  have h3 := h.2.2.1
  have h4 := h.2.2.2
  rw [RS.done, hl]
  clear hl h
  generalize st.taken = tk at *
  generalize st.err = er at *
  by_cases he : er = 0
  · subst he
    rw [if_pos rfl]
    by_cases h0 : tk < s.size
    · rw [if_neg (by omega)]
      have b0 : (tk : Int) < (s.size : Int) := by omega
      have b1 : decide ((tk : Int) < (s.size : Int)) = true := by simpa using b0
      go_enter Tryz.func48, Tryz.ntmps48
      go_wp2
      go_quiet (fail)
      go_wp2
      go_quiet (fail)
      go_wp2
      go_ret2
      exact ⟨rfl, below_drewN (below_drewN (Below.refl _ _) _) _⟩
    · rw [if_pos (by omega)]
      have b0 : ¬ (tk : Int) < (s.size : Int) := by omega
      have b1 : decide ((tk : Int) < (s.size : Int)) = false := by simpa using b0
      go_enter Tryz.func48, Tryz.ntmps48
      go_wp2
      go_quiet (fail)
      go_wp2
      go_quiet (fail)
      go_wp2
      go_ret2
      exact ⟨rfl, below_drewN (below_drewN (Below.refl _ _) _) _⟩
  · rw [if_neg he]
    have b0 : (er != 0) = true := by simpa using he
    have b1 : (er == 0) = false := by simpa using he
    go_enter Tryz.func48, Tryz.ntmps48
    go_wp2
    go_quiet (fail)
    go_wp2
    go_ret2
    exact ⟨rfl, below_drewN (Below.refl _ _) _⟩
end Go.Proofs.YtmhgdcfmfcjagaaGreatDoor

namespace Go.Proofs.YtmhgdcfmfcjagaaGreatDoor
open Go.RowKit Cod
theorem svX (l : List UInt8) : sv l = .string ⟨l.toArray⟩ := rfl
theorem drewN_row {w : World} {b : Nat} {o : Obj} (n : Nat) (h : w.heap[b]? = some o) : (w.drewN n).heap[b]? = some o := h
theorem XRd.drewN {w : World} {b : Nat} {s : ByteArray} {st : RS} (h : XRd w b s st) (n : Nat) : XRd (w.drewN n) b s st := h
theorem err_cells {w : World} {b : Nat} {s : ByteArray} {st : RS} (h : XRd w b s st) : w.cell? ⟨b, 0, none⟩ = some (.string s) ∧ w.cell? ⟨b, 1, none⟩ = some (.int .i64 (st.taken : Int)) ∧ w.cell? ⟨b, 2, none⟩ = some (.int .i64 st.err) ∧ w.frozen? ⟨b, 1, none⟩ = false ∧ w.frozen? ⟨b, 2, none⟩ = false :=
  ⟨by rw [cell_of_row _ _ _ _ _ _ h.1]; rfl, by rw [cell_of_row _ _ _ _ _ _ h.1]; rfl, by rw [cell_of_row _ _ _ _ _ _ h.1]; rfl, frozen_of_row _ _ _ _ _ h.1, frozen_of_row _ _ _ _ _ h.1⟩
set_option maxRecDepth 100000 in
set_option maxHeartbeats 1000000 in
theorem xByte_any (b : Nat) (s : ByteArray) (st : RS) (w : World) (h : XRd w b s st) :
    Calls Tryz.prog 56 #[.pointer (some ⟨b, 0, none⟩)] w fun r w' => r = .returned (.int .i64 ((st.val 0 (rdByte st.rest) : Nat) : Int)) ∧ XRd w' b s (st.step (rdByte st.rest)) ∧ But b w w' := by
  obtain ⟨c0, c1, c2, f1, f2⟩ := err_cells h
  have H := hid h
  by_cases he : st.err = 0
  · have h3 := h.2.2.1
    have h4 := h.2.2.2
    have h2 := h.2.1
    rw [he] at c2
    by_cases h0 : st.taken < s.size
    · obtain ⟨x, hx, hx2, hi, hi2⟩ := index_any s (st.taken : Int) st.taken rfl h0
      have hcons : s.data.toList.drop st.taken = UInt8.ofNat x :: s.data.toList.drop (st.taken + 1) := by
        have hk' : st.taken < s.data.toList.length := by rw [data_length]; exact h0
        rw [List.drop_eq_getElem_cons hk']
        congr 1
        rw [hx.out, List.getD_eq_getElem?_getD, List.getElem?_eq_getElem hk']
        simp
      have hxu : (UInt8.ofNat x).toNat = x := by simp; omega
      have hr : rdByte st.rest = .good x (s.data.toList.drop (st.taken + 1)) := by rw [h2, hcons, rdByte, hxu]
      have hg := H.out.good pf_byte he hr
      have hv : st.val 0 (rdByte st.rest) = x := by rw [hr, val_good he]
      rw [hv]
      have hto : s.size - (s.data.toList.drop (st.taken + 1)).length = st.taken + 1 := by rw [List.length_drop, data_length]; omega
      rw [hto] at hg
      have G := hid hg
      have g0 : (w.setCell ⟨b, 1, none⟩ (.int .i64 ((st.taken + 1 : Nat) : Int))).cell? ⟨b, 0, none⟩ = some (.string s) := (err_cells hg).1
      have g1 : (w.setCell ⟨b, 1, none⟩ (.int .i64 ((st.taken + 1 : Nat) : Int))).cell? ⟨b, 1, none⟩ = some (.int .i64 ((st.taken + 1 : Nat) : Int)) := by
        have := (err_cells hg).2.1
        rw [hr, step_good he] at this
        have hl : st.taken + (st.rest.length - (s.data.toList.drop (st.taken + 1)).length) = st.taken + 1 := by
          rw [h2, List.length_drop, List.length_drop, data_length]; omega
        simp only at this
        rw [hl] at this
        exact this
      have b0 : ((st.taken : Int) == (s.size : Int)) = false := by
        have : ¬ (st.taken : Int) = (s.size : Int) := by omega
        simpa using this
      have e1 : ((st.taken + 1 : Nat) : Int) = (st.taken : Int) + 1 := by omega
      rw [e1] at g0 g1 G
      have s0 := hi2 h0
      clear hg hcons hxu hr hto hv h h2 H hi2
      generalize st.taken = tk at *
      have x1 : IntKind.i64.wrap ((tk : Int) + 1 - 1) = (tk : Int) := by rw [show (tk : Int) + 1 - 1 = (tk : Int) from by omega, IntKind.wrap_i64]; omega
      have x2 : (tk : Int) + 1 - 1 = (tk : Int) := by omega
      go_enter Tryz.func56, Tryz.ntmps56
      go_wp2
      go_quiet (fail)
      go_wp2
      go_quiet (fail)
      go_wp2
      go_ret
      exact ⟨rfl, G.out, (((But.refl b w).drewN _).setCell 1 _).drewN _⟩
    · have hn : st.rest = [] := by rw [h2, List.drop_eq_nil_of_le (by rw [data_length]; omega)]
      have hr : rdByte st.rest = .bad 21 := by rw [hn]; rfl
      have G := hid (H.out.bad he hr)
      have hv : st.val 0 (rdByte st.rest) = 0 := by rw [hr, val_badx he]
      rw [hv]
      have e0 : st.taken = s.size := by omega
      rw [e0] at c1
      have b0 : ((s.size : Int) == (s.size : Int)) = true := by simp
      clear hn hr hv h h2 H e0
      go_enter Tryz.func56, Tryz.ntmps56
      go_wp2
      go_quiet (fail)
      go_wp2
      go_ret
      exact ⟨rfl, G.out, ((But.refl b w).drewN _).setCell 2 _⟩
  · rw [val_bad he, step_bad he]
    have b0 : (st.err != 0) = true := by simpa using he
    have b1 : (st.err == 0) = false := by simpa using he
    clear h
    go_enter Tryz.func56, Tryz.ntmps56
    go_wp2
    go_ret
    exact ⟨rfl, H.out, But.refl _ _⟩
set_option maxRecDepth 100000 in
set_option maxHeartbeats 1000000 in
theorem xNum_any (b : Nat) (s : ByteArray) (st : RS) (w : World) (h : XRd w b s st) :
    Calls Tryz.prog 84 #[.pointer (some ⟨b, 0, none⟩)] w fun r w' => r = .returned (.int .i64 ((st.val 0 (rdNum st.rest) : Nat) : Int)) ∧ XRd w' b s (st.step (rdNum st.rest)) ∧ But b w w' := by
  obtain ⟨c0, c1, c2, f1, f2⟩ := err_cells h
  have H := hid h
  by_cases he : st.err = 0
  · have h3 := h.2.2.1
    have h4 := h.2.2.2
    have h2 := h.2.1
    rw [he] at c2
    have hN := fun w => number_any s st.taken h3 (by omega) w
    rw [← h2] at hN
    cases hR : rdNum st.rest with
    | good n r =>
      have G := hid (H.out.good pf_num he hR)
      rw [hR] at G hN
      rw [val_good he]
      simp only [tupA] at hN
      have hrow := hid h.1
      clear h2 h hR
      go_enter Tryz.func84, Tryz.ntmps84
      go_wp2
      go_quiet ((go_at_call 103; exact Calls.quiet_of_same (hN _)))
      go_wp2_with (go_at_call 102; refine (ends_ok b _ _ _ _ (w.drewN _) hrow.out).mono ?_; rintro e w1 ⟨rfl, hw1⟩; rw [hw1]; clear hw1 w1)
      go_ret
      exact ⟨rfl, G.out, ((But.refl b w).drewN _).setCell 1 _⟩
    | bad e =>
      have hz := nz_num _ e hR
      have G := hid (H.out.bad he hR)
      rw [hR] at G hN
      rw [val_badx he]
      simp only [tupA] at hN
      have hrow := hid h.1
      clear h2 h hR
      go_enter Tryz.func84, Tryz.ntmps84
      go_wp2
      go_quiet ((go_at_call 103; exact Calls.quiet_of_same (hN _)))
      go_wp2_with (go_at_call 102; refine (ends_bad b e _ _ _ _ (w.drewN _) hz hrow.out).mono ?_; rintro e w1 ⟨rfl, hw1⟩; rw [hw1]; clear hw1 w1)
      go_ret
      exact ⟨rfl, G.out, ((But.refl b w).drewN _).setCell 2 _⟩
  · rw [val_bad he, step_bad he]
    have b0 : (st.err != 0) = true := by simpa using he
    have b1 : (st.err == 0) = false := by simpa using he
    clear h
    go_enter Tryz.func84, Tryz.ntmps84
    go_wp2
    go_ret
    exact ⟨rfl, H.out, But.refl _ _⟩
set_option maxRecDepth 100000 in
set_option maxHeartbeats 1000000 in
theorem xMany_any (b : Nat) (s : ByteArray) (st : RS) (most : Int) (w : World) (h : XRd w b s st) :
    Calls Tryz.prog 101 #[.pointer (some ⟨b, 0, none⟩), .int .i64 most] w fun r w' => r = .returned (tupA s.size (rdMany st.rest most)) ∧ Below w.heap.size w w' ∧ w'.heap = w.heap := by
  obtain ⟨c0, c1, c2, f1, f2⟩ := err_cells h
  have h3 := h.2.2.1
  have h4 := h.2.2.2
  have h2 := h.2.1
  have hN := fun w => number_any s st.taken h3 (by omega) w
  rw [← h2] at hN
  rw [rdMany]
  by_cases hm : most < 0
  · rw [if_pos hm]
    simp only [tupA]
    clear h h2 hN
    go_enter Tryz.func101, Tryz.ntmps101
    go_wp2
    go_ret3
    exact ⟨rfl, Below.refl _ _, rfl⟩
  · rw [if_neg hm]
    cases hR : rdNum st.rest with
    | bad e =>
      have hz := nz_num _ e hR
      have z1 : ((e : Int) == 0) = false := by simp; omega
      rw [hR] at hN
      rw [Rd.bind_bad]
      simp only [tupA] at hN ⊢
      clear h h2 hR
      go_enter Tryz.func101, Tryz.ntmps101
      go_wp2
      go_quiet ((go_at_call 103; exact Calls.quiet_of_same (hN _)))
      go_wp2
      go_ret3
      exact ⟨rfl, below_drewN (Below.refl _ _) _, rfl⟩
    | good n r =>
      rw [hR] at hN
      rw [Rd.bind_good]
      simp only [tupA] at hN
      by_cases hc : most < (n : Int)
      · rw [if_pos hc]
        simp only [tupA]
        have z1 : (n : Int) > most := hc
        have z2 : decide (most < (n : Int)) = true := by simpa using hc
        clear h h2 hR
        go_enter Tryz.func101, Tryz.ntmps101
        go_wp2
        go_quiet ((go_at_call 103; exact Calls.quiet_of_same (hN _)))
        go_wp2
        go_ret3
        exact ⟨rfl, below_drewN (Below.refl _ _) _, rfl⟩
      · rw [if_neg hc]
        simp only [tupA]
        have z2 : decide (most < (n : Int)) = false := by simpa using hc
        clear h h2 hR
        go_enter Tryz.func101, Tryz.ntmps101
        go_wp2
        go_quiet ((go_at_call 103; exact Calls.quiet_of_same (hN _)))
        go_wp2
        go_ret3
        exact ⟨rfl, below_drewN (Below.refl _ _) _, rfl⟩
set_option maxRecDepth 100000 in
set_option maxHeartbeats 1000000 in
theorem xRaw_any (b : Nat) (s : ByteArray) (st : RS) (n : Int) (w : World) (hn9 : n ≤ 9223372036854775807) (h : XRd w b s st) :
    Calls Tryz.prog 89 #[.pointer (some ⟨b, 0, none⟩), .int .i64 n] w fun r w' => r = .returned (sv (st.val [] (rdRaw st.rest n))) ∧ XRd w' b s (st.step (rdRaw st.rest n)) ∧ But b w w' := by
  obtain ⟨c0, c1, c2, f1, f2⟩ := err_cells h
  have H := hid h
  by_cases he : st.err = 0
  · have h3 := h.2.2.1
    have h4 := h.2.2.2
    have h2 := h.2.1
    have hl := h.len
    rw [he] at c2
    by_cases hm : n < 0
    · have hR : rdRaw st.rest n = .bad 1 := by rw [rdRaw, if_pos hm]
      have G := hid (H.out.bad he hR)
      have hv : st.val [] (rdRaw st.rest n) = [] := by rw [hR, val_badx he]
      rw [hv, svX]
      clear h2 h hR hv
      go_enter Tryz.func89, Tryz.ntmps89
      go_wp2
      go_ret
      exact ⟨rfl, G.out, (But.refl b w).setCell 2 _⟩
    · have x1 : IntKind.i64.wrap ((s.size : Int) - (st.taken : Int)) = (s.size : Int) - (st.taken : Int) := by rw [IntKind.wrap_i64]; omega
      by_cases hc : (st.rest.length : Int) < n
      · have hR : rdRaw st.rest n = .bad 21 := by rw [rdRaw, if_neg hm, if_pos hc]
        have G := hid (H.out.bad he hR)
        have hv : st.val [] (rdRaw st.rest n) = [] := by rw [hR, val_badx he]
        rw [hv, svX]
        have z1 : (s.size : Int) - (st.taken : Int) < n := by omega
        have z2 : decide ((s.size : Int) - (st.taken : Int) < n) = true := by simpa using z1
        clear h2 h hR hv hl hc
        go_enter Tryz.func89, Tryz.ntmps89
        go_wp2
        go_quiet (fail)
        go_wp2
        go_ret
        exact ⟨rfl, G.out, ((But.refl b w).drewN _).setCell 2 _⟩
      · have hR : rdRaw st.rest n = .good (st.rest.take n.toNat) (st.rest.drop n.toNat) := by rw [rdRaw, if_neg hm, if_neg hc]
        have hg := H.out.good (pf_raw n) he hR
        have hv : st.val [] (rdRaw st.rest n) = st.rest.take n.toNat := by rw [hR, val_good he]
        have hto : ((s.size - (st.rest.drop n.toNat).length : Nat) : Int) = (st.taken : Int) + n := by rw [List.length_drop, hl]; omega
        rw [hto] at hg
        have G := hid hg
        have hsv : sv (st.rest.take n.toNat) = .string (s.extract st.taken (st.taken + n.toNat)) := by rw [h2, sv_mid]
        rw [hv, hsv]
        have z1 : ¬ (s.size : Int) - (st.taken : Int) < n := by omega
        have z2 : decide ((s.size : Int) - (st.taken : Int) < n) = false := by simpa using z1
        have z3 : (st.taken : Int) + n ≤ (s.size : Int) := by omega
        have z4 : (st.taken : Int) + n - n = (st.taken : Int) := by omega
        have z5 : IntKind.i64.wrap ((st.taken : Int) + n) = (st.taken : Int) + n := by rw [IntKind.wrap_i64]; omega
        have z6 : (st.taken : Int) ≤ (st.taken : Int) + n := by omega
        have z7 : ((st.taken : Int) + n).toNat = st.taken + n.toNat := by omega
        have z8 : (0 : Int) ≤ (st.taken : Int) + n := by omega
        have z9 : IntKind.i64.wrap (st.taken : Int) = (st.taken : Int) := by rw [IntKind.wrap_i64]; omega
        clear h2 h hR hv hl hc hg hto hsv
        go_enter Tryz.func89, Tryz.ntmps89
        go_wp2
        go_quiet (fail)
        go_wp2
        go_quiet (fail)
        go_wp2
        go_ret
        exact ⟨rfl, G.out, (((But.refl b w).drewN _).setCell 1 _).drewN _⟩
  · rw [val_bad he, step_bad he, svX]
    have b0 : (st.err != 0) = true := by simpa using he
    have b1 : (st.err == 0) = false := by simpa using he
    clear h
    go_enter Tryz.func89, Tryz.ntmps89
    go_wp2
    go_ret
    exact ⟨rfl, H.out, But.refl _ _⟩
end Go.Proofs.YtmhgdcfmfcjagaaGreatDoor
