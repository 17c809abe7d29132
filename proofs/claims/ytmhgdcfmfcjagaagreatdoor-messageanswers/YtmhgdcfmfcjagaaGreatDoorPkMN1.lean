import Derived.Test.YtmhgdcfmfcjagaaGreatDoorPkYW2
import Derived.Deep.Slices
import Derived.Test.YtmhgdcfmfcjagaaGreatDoorPkP1
import Derived.Test.YtmhgdcfmfcjagaaGreatDoorPkN6
namespace Go.Proofs.YtmhgdcfmfcjagaaGreatDoor
open Go.RowKit Cod
namespace Msg
def Nzs (s : LS) : Prop := ∀ e, s.1 = .bad e → e ≠ 0
def NzL (L : LS → LS) : Prop := ∀ s, Nzs s → Nzs (L s)
theorem NzL.id : NzL id := fun _ h => h
theorem NzL.comp {L1 L2 : LS → LS} (h1 : NzL L1) (h2 : NzL L2) : NzL (fun s => L2 (L1 s)) := fun s h => h2 _ (h1 s h)
theorem nz_lif (ok : Bool) (e : Int) (l : List UInt8) : NzL (lif ok e l) := fun s h f hf => by
  rw [lif] at hf
  split at hf
  · have hf : s.1.put e l = .bad f := hf
    cases hs : s.1 with
    | bad g =>
      rw [hs, WSt.put] at hf
      injection hf with hf
      exact hf ▸ h g hs
    | ok bs =>
      rw [hs, WSt.put] at hf
      split at hf
      · cases hf
      · rename_i he
        injection hf with hf
        exact hf ▸ he
  · exact h f hf
theorem nz_fold {α : Type} (F : α → LS → LS) (hF : ∀ a, NzL (F a)) : ∀ l : List α, NzL (fun s => l.foldl (fun s a => F a s) s)
  | [] => NzL.id
  | a :: l => fun s h => nz_fold F hF l (F a s) (hF a s h)
theorem nz_nil : Nzs (.ok [], false) := fun e h => by cases h
def frO (s : LS) : Value :=
  if s.1.err = 0 ∧ s.2 = false then (if 1048576 < s.1.text.length then .tuple #[sv [], .int .i64 174] else .tuple #[sv (wrText s.1.text), .int .i64 0]) else .tuple #[sv [], .int .i64 171]
theorem ws_some {s : LS} (h : Nzs s) (he : s.1.err = 0 ∧ s.2 = false) : ∃ p, s = (.ok p, false) := by
  obtain ⟨st, q⟩ := s
  obtain ⟨h1, h2⟩ := he
  have h2 : q = false := h2
  subst h2
  cases st with
  | ok p => exact ⟨p, rfl⟩
  | bad e => exact absurd h1 (h e rfl)
theorem str_eta17 {l : List UInt8} {b : ByteArray} (h : sv l = .string b) : b.data.toList = l ∧ b.size = l.length := by
  unfold sv at h
  injection h with h
  rw [← h]
  exact ⟨sv_data l, sv_size l⟩
theorem below_drewN17 {B : Nat} {a w : World} (h : Below B a w) (n : Nat) : Below B a (w.drewN n) := ⟨h.os, h.tape, h.output, h.size, h.block⟩
set_option maxRecDepth 100000 in
set_option maxHeartbeats 800000 in
theorem sameTexts_yes (l : List (List UInt8)) (ua ub : Value) (w : World) (ha : Slc w ua l) (hb : Slc w ub l) (hll : l.length ≤ maxLen) :
    Calls Tryz.prog 39 #[ua, ub] w fun e w' => e = .returned (.bool true) ∧ Below w.heap.size w w' := by
  obtain ⟨a, ca, rfl, ha⟩ := ha
  obtain ⟨d, cd, rfl, hd⟩ := hb
  unfold maxLen at hll
  have Ha := hid ha
  have Hd := hid hd
  clear ha hd
  go_enter Tryz.func39, Tryz.ntmps39
  go_wp2
  go_loopw [5] (fun i w' => ∃ k : Nat, k ≤ l.length ∧ i = .int .i64 k ∧ Hid (Below w.heap.size w w')) (fun i _ => l.length - (intOf i).toNat)
  case atStart => exact ⟨0, by omega, rfl, hid (Below.refl _ _)⟩
  case round =>
    obtain ⟨k, hk, rfl, hw'⟩ := hrel
    by_cases hlt : k < l.length
    · have b0 : (k : Int) < (l.length : Int) := by omega
      obtain ⟨x, rfl, xb, hx⟩ := Ha.out k l[k] (List.getElem?_eq_getElem hlt)
      rw [← hw'.out.cell (p := x.add k) (by rw [add_block]; exact xb)] at hx
      clear xb
      obtain ⟨y, rfl, yb, hy⟩ := Hd.out k l[k] (List.getElem?_eq_getElem hlt)
      rw [← hw'.out.cell (p := y.add k) (by rw [add_block]; exact yb)] at hy
      clear yb
      rw [sv] at hx hy
      generalize ByteArray.mk (l[k]).toArray = p at *
      have y1 : (p.toList == p.toList) = true := by simp
      have y2 : (p.toList != p.toList) = false := by simp
      go_wp2
      go_quiet (fail)
      go_wp2
      exact ⟨⟨k + 1, by omega, by go_num, hid (below_drewN17 hw'.out _)⟩, by simp [intOf]; omega⟩
    · have b0 : ¬ (k : Int) < (l.length : Int) := by omega
      go_wp2
      go_ret
      exact ⟨rfl, hw'.out⟩
theorem add_at (g o n : Nat) : (⟨g, o, none⟩ : Addr).add n = ⟨g, o + n, none⟩ := by
  unfold Addr.add
  split
  · simp_all
  · rfl
end Msg
end Go.Proofs.YtmhgdcfmfcjagaaGreatDoor

namespace Go.Proofs.YtmhgdcfmfcjagaaGreatDoor
open Go.RowKit Cod
def XRd (w : World) (b : Nat) (s : ByteArray) (st : RS) : Prop :=
  w.heap[b]? = some (.cells #[.string s, .int .i64 (st.taken : Int), .int .i64 st.err] 122 (0, 0)) ∧ st.rest = s.data.toList.drop st.taken ∧ st.taken ≤ s.size ∧ s.size ≤ 1048576
theorem XRd.lt {w : World} {b : Nat} {s : ByteArray} {st : RS} (h : XRd w b s st) : b < w.heap.size := lt_of_heap h.1
theorem XRd.keep {S : Nat → Prop} {w w' : World} {b : Nat} {s : ByteArray} {st : RS} (h : XRd w b s st) (hb : Keep S w w') (hne : ¬ S b) : XRd w' b s st := ⟨(hb.block b h.lt hne).trans h.1, h.2⟩
theorem XRd.below {w w' : World} {b : Nat} {s : ByteArray} {st : RS} (h : XRd w b s st) (hb : Below w.heap.size w w') : XRd w' b s st := ⟨(hb.block b h.lt).trans h.1, h.2⟩
theorem XRd.len {w : World} {b : Nat} {s : ByteArray} {st : RS} (h : XRd w b s st) : st.rest.length = s.size - st.taken := by
  rw [h.2.1, List.length_drop, data_length]
theorem rest_of {α : Type} {R : List UInt8 → Rd α} (hp : Pf R) {l : List UInt8} {a : Nat} {v : α} {r : List UInt8} (h : R (l.drop a) = .good v r) (ha : a ≤ l.length) : r = l.drop (l.length - r.length) ∧ r.length ≤ l.length - a := by
  obtain ⟨p, hp⟩ := hp.ends _ _ _ h
  have hl := congrArg List.length hp
  rw [List.length_drop, List.length_append] at hl
  refine ⟨?_, by omega⟩
  rw [show l.length - r.length = a + p.length from by omega, ← List.drop_drop, hp, List.drop_left]
theorem XRd.good {α : Type} {R : List UInt8 → Rd α} (hp : Pf R) {w : World} {b : Nat} {s : ByteArray} {st : RS} (h : XRd w b s st) (he : st.err = 0) {v : α} {r : List UInt8} (hr : R st.rest = .good v r) :
    XRd (w.setCell ⟨b, 1, none⟩ (.int .i64 ((s.size - r.length : Nat) : Int))) b s (st.step (R st.rest)) := by
  obtain ⟨h1, h2, h3, h4⟩ := h
  have hd := data_length s
  have hr' := hr
  rw [h2] at hr'
  obtain ⟨e1, e2⟩ := rest_of hp hr' (by omega)
  rw [hd] at e1 e2
  rw [hr, step_good he]
  have hl : st.rest.length = s.size - st.taken := by rw [h2, List.length_drop, hd]
  have ht : st.taken + (st.rest.length - r.length) = s.size - r.length := by omega
  refine ⟨?_, ?_, ?_, h4⟩
  · rw [ht]
    rw [he] at h1
    exact row3_set _ _ _ _ _ _ _ _ _ rfl h1
  · show r = s.data.toList.drop (st.taken + (st.rest.length - r.length))
    rw [ht]; exact e1
  · show st.taken + (st.rest.length - r.length) ≤ s.size
    omega
theorem XRd.bad {α : Type} {x : Rd α} {w : World} {b : Nat} {s : ByteArray} {st : RS} (h : XRd w b s st) (he : st.err = 0) {e : Nat} (hx : x = .bad e) :
    XRd (w.setCell ⟨b, 2, none⟩ (.int .i64 (e : Int))) b s (st.step x) := by
  subst hx
  rw [step_badx he]
  exact ⟨row3_set _ _ _ _ _ _ _ _ _ rfl h.1, h.2⟩
theorem XRd.but1 (w : World) (b i : Nat) (v : Value) : But b w (w.setCell ⟨b, i, none⟩ v) := (But.refl b w).setCell i v
set_option maxRecDepth 100000 in
theorem ends_ok (b : Nat) (x y z : Value) (to_ : Int) (w : World) (h : w.heap[b]? = some (.cells #[x, y, z] 122 (0, 0))) :
    Calls Tryz.prog 102 #[.pointer (some ⟨b, 0, none⟩), .int .i64 to_, .int .i64 0] w fun r w' => r = .returned (.bool true) ∧ w' = w.setCell ⟨b, 1, none⟩ (.int .i64 to_) := by
  have c1 : w.cell? ⟨b, 1, none⟩ = some y := by rw [cell_of_row _ _ _ _ _ _ h]; rfl
  have f1 : w.frozen? ⟨b, 1, none⟩ = false := frozen_of_row _ _ _ _ _ h
  go_enter Tryz.func102, Tryz.ntmps102
  go_wp2
  go_ret
  exact ⟨rfl, rfl⟩
set_option maxRecDepth 100000 in
theorem ends_bad (b e : Nat) (x y z : Value) (to_ : Int) (w : World) (he : 0 < e) (h : w.heap[b]? = some (.cells #[x, y, z] 122 (0, 0))) :
    Calls Tryz.prog 102 #[.pointer (some ⟨b, 0, none⟩), .int .i64 to_, .int .i64 (e : Int)] w fun r w' => r = .returned (.bool false) ∧ w' = w.setCell ⟨b, 2, none⟩ (.int .i64 (e : Int)) := by
  have c1 : w.cell? ⟨b, 2, none⟩ = some z := by rw [cell_of_row _ _ _ _ _ _ h]; rfl
  have f1 : w.frozen? ⟨b, 2, none⟩ = false := frozen_of_row _ _ _ _ _ h
  have he' : ((e : Int) != 0) = true := by simp; omega
  have he2 : ((e : Int) == 0) = false := by simp; omega
  go_enter Tryz.func102, Tryz.ntmps102
  go_wp2
  go_ret
  exact ⟨rfl, rfl⟩
set_option maxRecDepth 100000 in
theorem xNew_any (s : ByteArray) (hs : s.size ≤ 1048576) (w : World) :
    Calls Tryz.prog 46 #[.string s] w fun r w' => r = .returned (.pointer (some ⟨w.heap.size, 0, none⟩)) ∧ XRd w' w.heap.size s ⟨s.data.toList, 0, 0⟩ ∧ Below w.heap.size w w' ∧ w'.heap.size = w.heap.size + 1 := by
  go_enter Tryz.func46, Tryz.ntmps46
  go_wp2
  go_ret
  exact ⟨rfl, ⟨heap_alloc_new w _, rfl, Nat.zero_le _, hs⟩, (Below.refl _ _).alloc (Nat.le_refl _) _, size_alloc _ _⟩
set_option maxRecDepth 100000 in
set_option maxHeartbeats 1000000 in
theorem xDone_any (b : Nat) (s : ByteArray) (st : RS) (w : World) (h : XRd w b s st) :
    Calls Tryz.prog 48 #[.pointer (some ⟨b, 0, none⟩)] w fun r w' => r = .returned (.tuple #[.int .i64 st.done, .int .i64 (st.taken : Int)]) ∧ Below w.heap.size w w' := by
  have c0 : w.cell? ⟨b, 0, none⟩ = some (.string s) := by rw [cell_of_row _ _ _ _ _ _ h.1]; rfl
  have c1 : w.cell? ⟨b, 1, none⟩ = some (.int .i64 (st.taken : Int)) := by rw [cell_of_row _ _ _ _ _ _ h.1]; rfl
  have c2 : w.cell? ⟨b, 2, none⟩ = some (.int .i64 st.err) := by rw [cell_of_row _ _ _ _ _ _ h.1]; rfl
  have hl := h.len
  have h3 := h.2.2.1
  have h4 := h.2.2.2
  rw [RS.done, hl]
  clear hl h
  generalize st.taken = tk at *
  generalize st.err = er at *
  by_cases he : er = 0
  · subst he
    rw [if_pos rfl]
    by_cases h0 : tk < s.size
    · rw [if_neg (by omega)]
      have b0 : (tk : Int) < (s.size : Int) := by omega
      have b1 : decide ((tk : Int) < (s.size : Int)) = true := by simpa using b0
      go_enter Tryz.func48, Tryz.ntmps48
      go_wp2
      go_quiet (fail)
      go_wp2
      go_quiet (fail)
      go_wp2
      go_ret2
      exact ⟨rfl, below_drewN (below_drewN (Below.refl _ _) _) _⟩
    · rw [if_pos (by omega)]
      have b0 : ¬ (tk : Int) < (s.size : Int) := by omega
      have b1 : decide ((tk : Int) < (s.size : Int)) = false := by simpa using b0
      go_enter Tryz.func48, Tryz.ntmps48
      go_wp2
      go_quiet (fail)
      go_wp2
      go_quiet (fail)
      go_wp2
      go_ret2
      exact ⟨rfl, below_drewN (below_drewN (Below.refl _ _) _) _⟩
  · rw [if_neg he]
    have b0 : (er != 0) = true := by simpa using he
    have b1 : (er == 0) = false := by simpa using he
    go_enter Tryz.func48, Tryz.ntmps48
    go_wp2
    go_quiet (fail)
    go_wp2
    go_ret2
    exact ⟨rfl, below_drewN (Below.refl _ _) _⟩
end Go.Proofs.YtmhgdcfmfcjagaaGreatDoor

namespace Go.Proofs.YtmhgdcfmfcjagaaGreatDoor
open Go.RowKit Cod
theorem svX (l : List UInt8) : sv l = .string ⟨l.toArray⟩ := rfl
theorem err_cells {w : World} {b : Nat} {s : ByteArray} {st : RS} (h : XRd w b s st) : w.cell? ⟨b, 0, none⟩ = some (.string s) ∧ w.cell? ⟨b, 1, none⟩ = some (.int .i64 (st.taken : Int)) ∧ w.cell? ⟨b, 2, none⟩ = some (.int .i64 st.err) ∧ w.frozen? ⟨b, 1, none⟩ = false ∧ w.frozen? ⟨b, 2, none⟩ = false :=
  ⟨by rw [cell_of_row _ _ _ _ _ _ h.1]; rfl, by rw [cell_of_row _ _ _ _ _ _ h.1]; rfl, by rw [cell_of_row _ _ _ _ _ _ h.1]; rfl, frozen_of_row _ _ _ _ _ h.1, frozen_of_row _ _ _ _ _ h.1⟩
set_option maxRecDepth 100000 in
set_option maxHeartbeats 1000000 in
theorem xByte_any (b : Nat) (s : ByteArray) (st : RS) (w : World) (h : XRd w b s st) :
    Calls Tryz.prog 56 #[.pointer (some ⟨b, 0, none⟩)] w fun r w' => r = .returned (.int .i64 ((st.val 0 (rdByte st.rest) : Nat) : Int)) ∧ XRd w' b s (st.step (rdByte st.rest)) ∧ But b w w' := by
  obtain ⟨c0, c1, c2, f1, f2⟩ := err_cells h
  have H := hid h
  by_cases he : st.err = 0
  · have h3 := h.2.2.1
    have h4 := h.2.2.2
    have h2 := h.2.1
    rw [he] at c2
    by_cases h0 : st.taken < s.size
    · obtain ⟨x, hx, hx2, hi, hi2⟩ := index_any s (st.taken : Int) st.taken rfl h0
      have hcons : s.data.toList.drop st.taken = UInt8.ofNat x :: s.data.toList.drop (st.taken + 1) := by
        have hk' : st.taken < s.data.toList.length := by rw [data_length]; exact h0
        rw [List.drop_eq_getElem_cons hk']
        congr 1
        rw [hx.out, List.getD_eq_getElem?_getD, List.getElem?_eq_getElem hk']
        simp
      have hxu : (UInt8.ofNat x).toNat = x := by simp; omega
      have hr : rdByte st.rest = .good x (s.data.toList.drop (st.taken + 1)) := by rw [h2, hcons, rdByte, hxu]
      have hg := H.out.good pf_byte he hr
      have hv : st.val 0 (rdByte st.rest) = x := by rw [hr, val_good he]
      rw [hv]
      have hto : s.size - (s.data.toList.drop (st.taken + 1)).length = st.taken + 1 := by rw [List.length_drop, data_length]; omega
      rw [hto] at hg
      have G := hid hg
      have g0 : (w.setCell ⟨b, 1, none⟩ (.int .i64 ((st.taken + 1 : Nat) : Int))).cell? ⟨b, 0, none⟩ = some (.string s) := (err_cells hg).1
      have g1 : (w.setCell ⟨b, 1, none⟩ (.int .i64 ((st.taken + 1 : Nat) : Int))).cell? ⟨b, 1, none⟩ = some (.int .i64 ((st.taken + 1 : Nat) : Int)) := by
        have := (err_cells hg).2.1
        rw [hr, step_good he] at this
        have hl : st.taken + (st.rest.length - (s.data.toList.drop (st.taken + 1)).length) = st.taken + 1 := by
          rw [h2, List.length_drop, List.length_drop, data_length]; omega
        simp only at this
        rw [hl] at this
        exact this
      have b0 : ((st.taken : Int) == (s.size : Int)) = false := by
        have : ¬ (st.taken : Int) = (s.size : Int) := by omega
        simpa using this
      have e1 : ((st.taken + 1 : Nat) : Int) = (st.taken : Int) + 1 := by omega
      rw [e1] at g0 g1 G
      have s0 := hi2 h0
      clear hg hcons hxu hr hto hv h h2 H hi2
      generalize st.taken = tk at *
      have x1 : IntKind.i64.wrap ((tk : Int) + 1 - 1) = (tk : Int) := by rw [show (tk : Int) + 1 - 1 = (tk : Int) from by omega, IntKind.wrap_i64]; omega
      have x2 : (tk : Int) + 1 - 1 = (tk : Int) := by omega
      go_enter Tryz.func56, Tryz.ntmps56
      go_wp2
      go_quiet (fail)
      go_wp2
      go_quiet (fail)
      go_wp2
      go_ret
      exact ⟨rfl, G.out, (((But.refl b w).drewN _).setCell 1 _).drewN _⟩
    · have hn : st.rest = [] := by rw [h2, List.drop_eq_nil_of_le (by rw [data_length]; omega)]
      have hr : rdByte st.rest = .bad 21 := by rw [hn]; rfl
      have G := hid (H.out.bad he hr)
      have hv : st.val 0 (rdByte st.rest) = 0 := by rw [hr, val_badx he]
      rw [hv]
      have e0 : st.taken = s.size := by omega
      rw [e0] at c1
      have b0 : ((s.size : Int) == (s.size : Int)) = true := by simp
      clear hn hr hv h h2 H e0
      go_enter Tryz.func56, Tryz.ntmps56
      go_wp2
      go_quiet (fail)
      go_wp2
      go_ret
      exact ⟨rfl, G.out, ((But.refl b w).drewN _).setCell 2 _⟩
  · rw [val_bad he, step_bad he]
    have b0 : (st.err != 0) = true := by simpa using he
    have b1 : (st.err == 0) = false := by simpa using he
    clear h
    go_enter Tryz.func56, Tryz.ntmps56
    go_wp2
    go_ret
    exact ⟨rfl, H.out, But.refl _ _⟩
set_option maxRecDepth 100000 in
set_option maxHeartbeats 1000000 in
theorem xNum_any (b : Nat) (s : ByteArray) (st : RS) (w : World) (h : XRd w b s st) :
    Calls Tryz.prog 84 #[.pointer (some ⟨b, 0, none⟩)] w fun r w' => r = .returned (.int .i64 ((st.val 0 (rdNum st.rest) : Nat) : Int)) ∧ XRd w' b s (st.step (rdNum st.rest)) ∧ But b w w' := by
  obtain ⟨c0, c1, c2, f1, f2⟩ := err_cells h
  have H := hid h
  by_cases he : st.err = 0
  · have h3 := h.2.2.1
    have h4 := h.2.2.2
    have h2 := h.2.1
    rw [he] at c2
    have hN := fun w => number_any s st.taken h3 (by omega) w
    rw [← h2] at hN
    cases hR : rdNum st.rest with
    | good n r =>
      have G := hid (H.out.good pf_num he hR)
      rw [hR] at G hN
      rw [val_good he]
      simp only [tupA] at hN
      have hrow := hid h.1
      clear h2 h hR
      go_enter Tryz.func84, Tryz.ntmps84
      go_wp2
      go_quiet ((go_at_call 103; exact Calls.quiet_of_same (hN _)))
      go_wp2_with (go_at_call 102; refine (ends_ok b _ _ _ _ (w.drewN _) hrow.out).mono ?_; rintro e w1 ⟨rfl, hw1⟩; rw [hw1]; clear hw1 w1)
      go_ret
      exact ⟨rfl, G.out, ((But.refl b w).drewN _).setCell 1 _⟩
    | bad e =>
      have hz := nz_num _ e hR
      have G := hid (H.out.bad he hR)
      rw [hR] at G hN
      rw [val_badx he]
      simp only [tupA] at hN
      have hrow := hid h.1
      clear h2 h hR
      go_enter Tryz.func84, Tryz.ntmps84
      go_wp2
      go_quiet ((go_at_call 103; exact Calls.quiet_of_same (hN _)))
      go_wp2_with (go_at_call 102; refine (ends_bad b e _ _ _ _ (w.drewN _) hz hrow.out).mono ?_; rintro e w1 ⟨rfl, hw1⟩; rw [hw1]; clear hw1 w1)
      go_ret
      exact ⟨rfl, G.out, ((But.refl b w).drewN _).setCell 2 _⟩
  · rw [val_bad he, step_bad he]
    have b0 : (st.err != 0) = true := by simpa using he
    have b1 : (st.err == 0) = false := by simpa using he
    clear h
    go_enter Tryz.func84, Tryz.ntmps84
    go_wp2
    go_ret
    exact ⟨rfl, H.out, But.refl _ _⟩
set_option maxRecDepth 100000 in
set_option maxHeartbeats 1000000 in
theorem xMany_any (b : Nat) (s : ByteArray) (st : RS) (most : Int) (w : World) (h : XRd w b s st) :
    Calls Tryz.prog 101 #[.pointer (some ⟨b, 0, none⟩), .int .i64 most] w fun r w' => r = .returned (tupA s.size (rdMany st.rest most)) ∧ Below w.heap.size w w' ∧ w'.heap = w.heap := by
  obtain ⟨c0, c1, c2, f1, f2⟩ := err_cells h
  have h3 := h.2.2.1
  have h4 := h.2.2.2
  have h2 := h.2.1
  have hN := fun w => number_any s st.taken h3 (by omega) w
  rw [← h2] at hN
  rw [rdMany]
  by_cases hm : most < 0
  · rw [if_pos hm]
    simp only [tupA]
    clear h h2 hN
    go_enter Tryz.func101, Tryz.ntmps101
    go_wp2
    go_ret3
    exact ⟨rfl, Below.refl _ _, rfl⟩
  · rw [if_neg hm]
    cases hR : rdNum st.rest with
    | bad e =>
      have hz := nz_num _ e hR
      have z1 : ((e : Int) == 0) = false := by simp; omega
      rw [hR] at hN
      rw [Rd.bind_bad]
      simp only [tupA] at hN ⊢
      clear h h2 hR
      go_enter Tryz.func101, Tryz.ntmps101
      go_wp2
      go_quiet ((go_at_call 103; exact Calls.quiet_of_same (hN _)))
      go_wp2
      go_ret3
      exact ⟨rfl, below_drewN (Below.refl _ _) _, rfl⟩
    | good n r =>
      rw [hR] at hN
      rw [Rd.bind_good]
      simp only [tupA] at hN
      by_cases hc : most < (n : Int)
      · rw [if_pos hc]
        simp only [tupA]
        have z1 : (n : Int) > most := hc
        have z2 : decide (most < (n : Int)) = true := by simpa using hc
        clear h h2 hR
        go_enter Tryz.func101, Tryz.ntmps101
        go_wp2
        go_quiet ((go_at_call 103; exact Calls.quiet_of_same (hN _)))
        go_wp2
        go_ret3
        exact ⟨rfl, below_drewN (Below.refl _ _) _, rfl⟩
      · rw [if_neg hc]
        simp only [tupA]
        have z2 : decide (most < (n : Int)) = false := by simpa using hc
        clear h h2 hR
        go_enter Tryz.func101, Tryz.ntmps101
        go_wp2
        go_quiet ((go_at_call 103; exact Calls.quiet_of_same (hN _)))
        go_wp2
        go_ret3
        exact ⟨rfl, below_drewN (Below.refl _ _) _, rfl⟩
set_option maxRecDepth 100000 in
set_option maxHeartbeats 1000000 in
theorem xRaw_any (b : Nat) (s : ByteArray) (st : RS) (n : Int) (w : World) (hn9 : n ≤ 9223372036854775807) (h : XRd w b s st) :
    Calls Tryz.prog 89 #[.pointer (some ⟨b, 0, none⟩), .int .i64 n] w fun r w' => r = .returned (sv (st.val [] (rdRaw st.rest n))) ∧ XRd w' b s (st.step (rdRaw st.rest n)) ∧ But b w w' := by
  obtain ⟨c0, c1, c2, f1, f2⟩ := err_cells h
  have H := hid h
  by_cases he : st.err = 0
  · have h3 := h.2.2.1
    have h4 := h.2.2.2
    have h2 := h.2.1
    have hl := h.len
    rw [he] at c2
    by_cases hm : n < 0
    · have hR : rdRaw st.rest n = .bad 1 := by rw [rdRaw, if_pos hm]
      have G := hid (H.out.bad he hR)
      have hv : st.val [] (rdRaw st.rest n) = [] := by rw [hR, val_badx he]
      rw [hv, svX]
      clear h2 h hR hv
      go_enter Tryz.func89, Tryz.ntmps89
      go_wp2
      go_ret
      exact ⟨rfl, G.out, (But.refl b w).setCell 2 _⟩
    · have x1 : IntKind.i64.wrap ((s.size : Int) - (st.taken : Int)) = (s.size : Int) - (st.taken : Int) := by rw [IntKind.wrap_i64]; omega
      by_cases hc : (st.rest.length : Int) < n
      · have hR : rdRaw st.rest n = .bad 21 := by rw [rdRaw, if_neg hm, if_pos hc]
        have G := hid (H.out.bad he hR)
        have hv : st.val [] (rdRaw st.rest n) = [] := by rw [hR, val_badx he]
        rw [hv, svX]
        have z1 : (s.size : Int) - (st.taken : Int) < n := by omega
        have z2 : decide ((s.size : Int) - (st.taken : Int) < n) = true := by simpa using z1
        clear h2 h hR hv hl hc
        go_enter Tryz.func89, Tryz.ntmps89
        go_wp2
        go_quiet (fail)
        go_wp2
        go_ret
        exact ⟨rfl, G.out, ((But.refl b w).drewN _).setCell 2 _⟩
      · have hR : rdRaw st.rest n = .good (st.rest.take n.toNat) (st.rest.drop n.toNat) := by rw [rdRaw, if_neg hm, if_neg hc]
        have hg := H.out.good (pf_raw n) he hR
        have hv : st.val [] (rdRaw st.rest n) = st.rest.take n.toNat := by rw [hR, val_good he]
        have hto : ((s.size - (st.rest.drop n.toNat).length : Nat) : Int) = (st.taken : Int) + n := by rw [List.length_drop, hl]; omega
        rw [hto] at hg
        have G := hid hg
        have hsv : sv (st.rest.take n.toNat) = .string (s.extract st.taken (st.taken + n.toNat)) := by rw [h2, sv_mid]
        rw [hv, hsv]
        have z1 : ¬ (s.size : Int) - (st.taken : Int) < n := by omega
        have z2 : decide ((s.size : Int) - (st.taken : Int) < n) = false := by simpa using z1
        have z3 : (st.taken : Int) + n ≤ (s.size : Int) := by omega
        have z4 : (st.taken : Int) + n - n = (st.taken : Int) := by omega
        have z5 : IntKind.i64.wrap ((st.taken : Int) + n) = (st.taken : Int) + n := by rw [IntKind.wrap_i64]; omega
        have z6 : (st.taken : Int) ≤ (st.taken : Int) + n := by omega
        have z7 : ((st.taken : Int) + n).toNat = st.taken + n.toNat := by omega
        have z8 : (0 : Int) ≤ (st.taken : Int) + n := by omega
        have z9 : IntKind.i64.wrap (st.taken : Int) = (st.taken : Int) := by rw [IntKind.wrap_i64]; omega
        clear h2 h hR hv hl hc hg hto hsv
        go_enter Tryz.func89, Tryz.ntmps89
        go_wp2
        go_quiet (fail)
        go_wp2
        go_quiet (fail)
        go_wp2
        go_ret
        exact ⟨rfl, G.out, (((But.refl b w).drewN _).setCell 1 _).drewN _⟩
  · rw [val_bad he, step_bad he, svX]
    have b0 : (st.err != 0) = true := by simpa using he
    have b1 : (st.err == 0) = false := by simpa using he
    clear h
    go_enter Tryz.func89, Tryz.ntmps89
    go_wp2
    go_ret
    exact ⟨rfl, H.out, But.refl _ _⟩
end Go.Proofs.YtmhgdcfmfcjagaaGreatDoor
