import Derived.Test.YtmhgdcfmfcjagaaGreatDoorPkG4N
import Derived.Test.YtmhgdcfmfcjagaaGreatDoorPkN6
namespace Go.Proofs.YtmhgdcfmfcjagaaGreatDoor
open Go.RowKit Cod
namespace Msg
structure Tk (w : World) (b c : Nat) (s : TS) : Prop where
  row : w.heap[c]? = some (.cells #[.pointer (some ⟨b, 0, none⟩), .bool s.2] 86 (0, 0))
  rd : Rdr w b s.1
  ne : c ≠ b
  sm : s.1.rest.length ≤ 8796093022000
def BC (b c : Nat) : Nat → Prop := fun k => k = b ∨ k = c
theorem Tk.lt {w : World} {b c : Nat} {s : TS} (h : Tk w b c s) : c < w.heap.size := lt_of_heap h.row
theorem Tk.c0 {w : World} {b c : Nat} {s : TS} (h : Tk w b c s) : w.cell? ⟨c, 0, none⟩ = some (.pointer (some ⟨b, 0, none⟩)) := by rw [cell_of_row _ _ _ _ _ _ h.row]; rfl
theorem Tk.c1 {w : World} {b c : Nat} {s : TS} (h : Tk w b c s) : w.cell? ⟨c, 1, none⟩ = some (.bool s.2) := by rw [cell_of_row _ _ _ _ _ _ h.row]; rfl
theorem Tk.f1 {w : World} {b c : Nat} {s : TS} (h : Tk w b c s) : w.frozen? ⟨c, 1, none⟩ = false := frozen_of_row _ _ _ _ _ h.row
theorem Tk.below {w w' : World} {b c : Nat} {s : TS} (h : Tk w b c s) (hb : Below w.heap.size w w') : Tk w' b c s := ⟨(hb.block c h.lt).trans h.row, h.rd.below hb, h.ne, h.sm⟩
theorem Tk.drew {w : World} {b c : Nat} {s : TS} (h : Tk w b c s) : Tk w.drew b c s := h.below (Below.refl _ w).drew
theorem Tk.keep {S : Nat → Prop} {w w' : World} {b c : Nat} {s : TS} (h : Tk w b c s) (hb : Keep S w w') (h1 : ¬ S b) (h2 : ¬ S c) : Tk w' b c s := ⟨(hb.block c h.lt h2).trans h.row, h.rd.keep hb h1, h.ne, h.sm⟩
theorem step_len {α : Type} {st : RS} {x : Rd α} (h : ∀ v r, x = .good v r → r.length ≤ st.rest.length) : (st.step x).rest.length ≤ st.rest.length := by
  unfold RS.step
  split
  · cases x with
    | bad e => exact Nat.le_refl _
    | good v r => exact h v r rfl
  · exact Nat.le_refl _
theorem Tk.read {α : Type} {w w' : World} {b c : Nat} {s : TS} (h : Tk w b c s) {x : Rd α} (hr : Rdr w' b (s.1.step x)) (hb : But b w w') (hl : ∀ v r, x = .good v r → r.length ≤ s.1.rest.length) : Tk w' b c (s.1.step x, s.2) :=
  ⟨(hb.block c h.lt h.ne).trans h.row, hr, h.ne, Nat.le_trans (step_len hl) h.sm⟩
theorem Tk.mark {w w' : World} {b c : Nat} {s : TS} (h : Tk w b c s) (q : Bool) (hr : w'.heap[c]? = some (.cells #[.pointer (some ⟨b, 0, none⟩), .bool q] 86 (0, 0))) (hb : But c w w') : Tk w' b c (s.1, q) :=
  ⟨hr, h.rd.keep (S := fun k => k = c) (Keep.ofBut hb rfl) (fun e => h.ne e.symm), h.ne, h.sm⟩
theorem bc_both {w w1 w2 : World} {b c : Nat} (h : But b w w1) (k : But c w1 w2) : Keep (BC b c) w w2 :=
  (Keep.ofBut h (.inl rfl) : Keep (BC b c) w w1).trans (T := BC b c) (Keep.ofBut k (.inr rfl)) (fun _ _ e => e)
def Nw (lo hi : Nat) (v : Value) : Prop := ∀ x n c, v = .slice (some x) n c → lo ≤ x.block ∧ x.block < hi
theorem Nw.mono {lo hi lo' hi' : Nat} {v : Value} (h : Nw lo hi v) (h1 : lo' ≤ lo) (h2 : hi ≤ hi') : Nw lo' hi' v := fun x n c e => by
  have := h x n c e
  exact ⟨by omega, by omega⟩
theorem Nw.nil (lo hi : Nat) : Nw lo hi (.slice none 0 0) := fun x n c e => by cases e
theorem Nw.slc {S : Nat → Prop} {w w' : World} {lo hi : Nat} {u : Value} {ps : List (List UInt8)} (h : Nw lo hi u) (hs : Slc w u ps) (hb : Keep S w w') (hS : ∀ k, lo ≤ k → k < hi → ¬ S k) : Slc w' u ps :=
  hs.keep hb (fun x n q e _ hk => hS _ (h x n q e).1 (h x n q e).2 hk)
theorem Nw.slcI {S : Nat → Prop} {w w' : World} {lo hi : Nat} {u : Value} {ps : List Int} (h : Nw lo hi u) (hs : SlcI w u ps) (hb : Keep S w w') (hS : ∀ k, lo ≤ k → k < hi → ¬ S k) : SlcI w' u ps :=
  hs.keep hb (fun x n q e _ hk => hS _ (h x n q e).1 (h x n q e).2 hk)
theorem nw_of {w : World} {base : Nat} {v : Value} {cs : List Value} (h : Own w base v cs) : Nw base w.heap.size v := fun x n c e => by
  rcases h with ⟨rfl, _⟩ | ⟨g, cap, rfl, h1, h2, h3, h4, h5, h6⟩
  · cases e
  · cases e; exact ⟨h1, h6⟩
theorem own_slcI {w : World} {base : Nat} {v : Value} {L : List Nat} (h : Own w base v (nvs L)) : SlcI w v (ints L) := by
  rcases h with ⟨rfl, h0⟩ | ⟨g, cap, rfl, h1, h2, h3, h4, h5, h6⟩
  · have : L = [] := by simpa [nvs] using h0
    subst this
    exact ⟨none, 0, rfl, fun j c hc => by simp [ints] at hc⟩
  · refine ⟨some ⟨g, 0, none⟩, cap, by rw [nvs_length, ints, List.length_map], fun j c hc => ⟨_, rfl, h6, ?_⟩⟩
    rw [Addr.add_mid]
    refine h4 j _ ?_
    rw [ints, List.getElem?_map] at hc
    rw [nvs, List.getElem?_map]
    cases hL : L[j]? with
    | none => rw [hL] at hc; cases hc
    | some n => rw [hL] at hc; obtain rfl := Option.some.inj hc; rfl
theorem own_slc {w : World} {base : Nat} {v : Value} {L : List (List UInt8)} (h : Own w base v (svs L)) : Slc w v L := by
  rcases h with ⟨rfl, h0⟩ | ⟨g, cap, rfl, h1, h2, h3, h4, h5, h6⟩
  · have : L = [] := by simpa [svs] using h0
    subst this
    exact ⟨none, 0, rfl, fun j c hc => by simp at hc⟩
  · refine ⟨some ⟨g, 0, none⟩, cap, by rw [svs_length], fun j c hc => ⟨_, rfl, h6, ?_⟩⟩
    rw [Addr.add_mid]
    refine h4 j _ ?_
    rw [svs, List.getElem?_map, hc]; rfl
def ivs (l : List Int) : List Value := l.map (Value.int .i64)
theorem nvs_ivs (L : List Nat) : nvs L = ivs (ints L) := by simp [nvs, ivs, ints]
theorem own_keepK {S : Nat → Prop} {w w' : World} {base : Nat} {v : Value} {cs : List Value} (h : Own w base v cs) (hb : Keep S w w') (hS : ∀ k, base ≤ k → k < w.heap.size → ¬ S k) : Own w' base v cs := by
  refine h.kept hb.size fun g hg => ?_
  rcases h with ⟨rfl, _⟩ | ⟨g', cap, rfl, h1, h2, h3, h4, h5, h6⟩
  · cases hg
  · cases hg; exact hb.block g' h6 (hS g' h1 h6)
theorem Own.slT {w : World} {base : Nat} {v : Value} {L : List (List UInt8)} (h : Own w base v (svs L)) : ∃ p q, v = .slice p L.length q := by
  obtain ⟨a, c, h⟩ := h.shape
  exact ⟨a, c, by rw [h, svs_length]⟩
theorem Own.slI {w : World} {base : Nat} {v : Value} {L : List Nat} (h : Own w base v (nvs L)) : ∃ p q, v = .slice p L.length q := by
  obtain ⟨a, c, h⟩ := h.shape
  exact ⟨a, c, by rw [h, nvs_length]⟩
set_option maxRecDepth 100000 in
set_option maxHeartbeats 400000 in
theorem finds_any {b c : Nat} {s : TS} (ok : Bool) (w : World) (h : Tk w b c s) :
    Calls Tryz.prog 183 #[.pointer (some ⟨c, 0, none⟩), .bool ok] w fun e w' => e = .returned (.tuple #[]) ∧ Tk w' b c (s.1, s.2 || !ok) ∧ But c w w' := by
  have c1 := h.c1
  have f1 := h.f1
  have H := hid h
  obtain ⟨st, q⟩ := s
  clear h
  cases q <;> cases ok <;>
  · go_enter Tryz.func183, Tryz.ntmps183
    go_wp2
    go_end0
    exact ⟨rfl, H.out.mark _ (row2_set1 H.out.row) ((But.refl _ _).setCell _ _), (But.refl _ _).setCell _ _⟩
set_option maxRecDepth 100000 in
set_option maxHeartbeats 400000 in
theorem takeMark_any {b c : Nat} {s : TS} (z lo hi : Int) (w : World) (h : Tk w b c s) :
    Calls Tryz.prog 176 #[.pointer (some ⟨c, 0, none⟩), .int .i64 z, .int .i64 lo, .int .i64 hi] w fun e w' => e = .returned (.tuple #[.int .i64 ((tMark lo hi s).1 : Int), .bool (wi ((tMark lo hi s).1 : Int) lo hi)]) ∧ Tk w' b c (tMark lo hi s).2 ∧ Keep (BC b c) w w' := by
  have c0 := h.c0
  have i1 := rByte_any b s.1 w h.rd
  have e1 : (tMark lo hi s).1 = s.1.val 0 (rdByte s.1.rest) := rfl
  have e2 : (tMark lo hi s).2 = (s.1.step (rdByte s.1.rest), s.2 || !wi ((s.1.val 0 (rdByte s.1.rest) : Nat) : Int) lo hi) := rfl
  rw [e1, e2]
  generalize s.1.val 0 (rdByte s.1.rest) = n at *
  have H := hid h
  clear h e1 e2
  go_enter Tryz.func176, Tryz.ntmps176
  go_wp2_with (first
    | (go_at_call 149; refine i1.mono ?_; rintro e w1 ⟨rfl, h1, h2⟩; have hT := H.out.read h1 h2 (pf_byte.le); have i2 := within_any (n : Int) lo hi w1; have i3 := finds_any (wi (n : Int) lo hi) w1 hT; have H2 := hid h2; clear h1 h2 hT)
    | (go_at_call 28; refine i2.mono ?_; rintro e w' ⟨rfl, hw'⟩; rw [hw']; clear hw' w')
    | (go_at_call 183; refine i3.mono ?_; rintro e w2 ⟨rfl, h3, h4⟩; have H3 := hid h3; have H4 := hid (bc_both H2.out h4); clear h3 h4))
  go_ret2
  exact ⟨rfl, H3.out, H4.out⟩
set_option maxRecDepth 100000 in
set_option maxHeartbeats 400000 in
theorem takeSize_any {b c : Nat} {s : TS} (z : Int) (w : World) (h : Tk w b c s) :
    Calls Tryz.prog 179 #[.pointer (some ⟨c, 0, none⟩), .int .i64 z] w fun e w' => e = .returned (.int .i64 ((tSize s).1 : Int)) ∧ Tk w' b c (tSize s).2 ∧ Keep (BC b c) w w' := by
  have c0 := h.c0
  have i1 := rNum_any b s.1 w h.rd
  have e1 : (tSize s).1 = s.1.val 0 (rdNum s.1.rest) := rfl
  have e2 : (tSize s).2 = (s.1.step (rdNum s.1.rest), s.2 || !isSz ((s.1.val 0 (rdNum s.1.rest) : Nat) : Int)) := rfl
  rw [e1, e2]
  generalize s.1.val 0 (rdNum s.1.rest) = n at *
  have H := hid h
  clear h e1 e2
  go_enter Tryz.func179, Tryz.ntmps179
  go_wp2_with (first
    | (go_at_call 182; refine i1.mono ?_; rintro e w1 ⟨rfl, h1, h2⟩; have hT := H.out.read h1 h2 (pf_num.le); have i2 := isSize_any (n : Int) w1; have i3 := finds_any (isSz (n : Int)) w1 hT; have H2 := hid h2; clear h1 h2 hT)
    | (go_at_call 164; refine i2.mono ?_; rintro e w' ⟨rfl, hw'⟩; rw [hw']; clear hw' w')
    | (go_at_call 183; refine i3.mono ?_; rintro e w2 ⟨rfl, h3, h4⟩; have H3 := hid h3; have H4 := hid (bc_both H2.out h4); clear h3 h4))
  go_ret
  exact ⟨rfl, H3.out, H4.out⟩
set_option maxRecDepth 100000 in
set_option maxHeartbeats 400000 in
theorem takeRoot_any {b c : Nat} {s : TS} (z : Value) (w : World) (h : Tk w b c s) :
    Calls Tryz.prog 178 #[.pointer (some ⟨c, 0, none⟩), z] w fun e w' => e = .returned (sv (tRoot s).1) ∧ Tk w' b c (tRoot s).2 ∧ Keep (BC b c) w w' := by
  have c0 := h.c0
  have i1 := rRaw_any b s.1 32 w h.rd
  have e1 : (tRoot s).1 = s.1.val [] (rdRaw s.1.rest 32) := rfl
  have e2 : (tRoot s).2 = (s.1.step (rdRaw s.1.rest 32), s.2) := by
    show (_, s.2 || !true) = _
    rw [Bool.not_true, Bool.or_false]
  rw [e1, e2]
  generalize s.1.val [] (rdRaw s.1.rest 32) = n at *
  have H := hid h
  clear h e1 e2
  go_enter Tryz.func178, Tryz.ntmps178
  go_wp2_with (go_at_call 187; refine i1.mono ?_; rintro e w1 ⟨rfl, h1, h2⟩; have H1 := hid (H.out.read h1 h2 ((pf_raw 32).le)); have H2 := hid h2; clear h1 h2)
  go_ret
  exact ⟨rfl, H1.out, Keep.ofBut H2.out (.inl rfl)⟩
def TkL (w : World) (b c : Nat) (s : TS) (e : Ending) (w' : World) (Q : Value → Prop) : Prop :=
  ∃ v, e = .returned v ∧ Q v ∧ Nw w.heap.size w'.heap.size v ∧ Tk w' b c s ∧ Keep (BC b c) w w'
set_option maxRecDepth 100000 in
set_option maxHeartbeats 400000 in
theorem takeHashes_any {b c : Nat} {s : TS} (z : Value) (w : World) (h : Tk w b c s) :
    Calls Tryz.prog 175 #[.pointer (some ⟨c, 0, none⟩), z] w fun e w' => TkL w b c (tHashes s).2 e w' fun v => Slc w' v (tHashes s).1 ∧ Own w' w.heap.size v (svs (tHashes s).1) := by
  have c0 := h.c0
  have i1 := rHashes_any b s.1 32768 w (.inr (by omega)) h.rd
  have e1 : (tHashes s).1 = s.1.val [] (rdHashes s.1.rest 32768) := rfl
  have e2 : (tHashes s).2 = (s.1.step (rdHashes s.1.rest 32768), s.2) := by
    show (_, s.2 || !true) = _
    rw [Bool.not_true, Bool.or_false]
  rw [e1, e2]
  generalize s.1.val [] (rdHashes s.1.rest 32768) = n at *
  have H := hid h
  clear h e1 e2
  go_enter Tryz.func175, Tryz.ntmps175
  go_wp2_with (go_at_call 184; refine i1.mono ?_; rintro e w1 ⟨v, rfl, h0, h1, h2⟩; obtain ⟨p, q, rfl⟩ := Own.slT h0; have H0 := hid h0; have H1 := hid (H.out.read h1 h2 ((pf_hashes 32768).le)); have H2 := hid h2; clear h0 h1 h2)
  go_ret
  exact ⟨_, rfl, ⟨own_slc H0.out, H0.out⟩, nw_of H0.out, H1.out, Keep.ofBut H2.out (.inl rfl)⟩
set_option maxRecDepth 100000 in
set_option maxHeartbeats 400000 in
theorem takeTexts_any {b c : Nat} {s : TS} (z : Value) (least many most : Int) (w : World) (h : Tk w b c s) :
    Calls Tryz.prog 181 #[.pointer (some ⟨c, 0, none⟩), z, .int .i64 least, .int .i64 many, .int .i64 most] w fun e w' => TkL w b c (tTexts least many most s).2 e w' fun v => Slc w' v (tTexts least many most s).1 ∧ Own w' w.heap.size v (svs (tTexts least many most s).1) := by
  have c0 := h.c0
  have i1 := rTexts_any b s.1 many most w (.inl h.sm) h.rd
  have e1 : (tTexts least many most s).1 = s.1.val [] (rdTexts s.1.rest many most) := rfl
  have e2 : (tTexts least many most s).2 = (s.1.step (rdTexts s.1.rest many most), s.2 || !decide (least ≤ ((s.1.val [] (rdTexts s.1.rest many most)).length : Int))) := rfl
  rw [e1, e2]
  generalize s.1.val [] (rdTexts s.1.rest many most) = n at *
  have H := hid h
  have hcl := h.lt
  clear h e1 e2
  go_enter Tryz.func181, Tryz.ntmps181
  go_wp2_with (first
    | (go_at_call 189; refine i1.mono ?_; rintro e w1 ⟨v, rfl, h0, h1, h2⟩; obtain ⟨p, q, rfl⟩ := Own.slT h0; have H0 := hid h0; have i3 := finds_any (decide (least ≤ (n.length : Int))) w1 (H.out.read h1 h2 ((pf_texts many most).le)); have H2 := hid h2; clear h0 h1 h2)
    | (go_at_call 183; refine i3.mono ?_; rintro e w2 ⟨rfl, h3, h4⟩; have H3 := hid h3; have H4 := hid h4; clear h3 h4))
  go_ret
  exact ⟨_, rfl, ⟨(nw_of H0.out).slc (own_slc H0.out) (Keep.ofBut H4.out rfl : Keep (fun k => k = c) _ _) (fun k hk _ e => by omega), own_keepK H0.out (Keep.ofBut H4.out rfl : Keep (fun k => k = c) _ _) (fun k hk _ e => by omega)⟩, (nw_of H0.out).mono (Nat.le_refl _) H4.out.size, H3.out, bc_both H2.out H4.out⟩
set_option maxRecDepth 100000 in
set_option maxHeartbeats 400000 in
theorem takeSizes_any {b c : Nat} {s : TS} (z : Value) (many : Int) (w : World) (h : Tk w b c s) :
    Calls Tryz.prog 180 #[.pointer (some ⟨c, 0, none⟩), z, .int .i64 many] w fun e w' => TkL w b c (tSizes many s).2 e w' fun v => SlcI w' v (ints (tSizes many s).1) ∧ Own w' w.heap.size v (ivs (ints (tSizes many s).1)) := by
  have c0 := h.c0
  have i1 := rRising_any b s.1 many w (.inl (by have := h.sm; omega)) h.rd
  have e1 : (tSizes many s).1 = s.1.val [] (rdRising s.1.rest many) := rfl
  have e2 : (tSizes many s).2 = (s.1.step (rdRising s.1.rest many), s.2 || !arSz (ints (s.1.val [] (rdRising s.1.rest many))) many) := rfl
  rw [e1, e2]
  generalize s.1.val [] (rdRising s.1.rest many) = n at *
  have H := hid h
  have hcl := h.lt
  clear h e1 e2
  go_enter Tryz.func180, Tryz.ntmps180
  go_wp2_with (first
    | (go_at_call 188; refine i1.mono ?_; rintro e w1 ⟨v, rfl, h0, h1, h2⟩; have hT := H.out.read h1 h2 ((pf_rising many).le); have i2 := areSizes_any v (ints n) many (by rw [ints_len]; have := h0.len; rwa [nvs_length] at this) w1 (own_slcI h0); have i3 := finds_any (arSz (ints n) many) w1 hT; obtain ⟨p, q, rfl⟩ := Own.slI h0; have H0 := hid h0; have H2 := hid h2; clear h0 h1 h2 hT)
    | (go_at_call 165; refine i2.mono ?_; rintro e w' ⟨rfl, hw'⟩; rw [hw']; clear hw' w')
    | (go_at_call 183; refine i3.mono ?_; rintro e w2 ⟨rfl, h3, h4⟩; have H3 := hid h3; have H4 := hid h4; clear h3 h4))
  go_ret
  exact ⟨_, rfl, ⟨(nw_of H0.out).slcI (own_slcI H0.out) (Keep.ofBut H4.out rfl : Keep (fun k => k = c) _ _) (fun k hk _ e => by omega), by rw [← nvs_ivs]; exact own_keepK H0.out (Keep.ofBut H4.out rfl : Keep (fun k => k = c) _ _) (fun k hk _ e => by omega)⟩, (nw_of H0.out).mono (Nat.le_refl _) H4.out.size, H3.out, bc_both H2.out H4.out⟩
end Msg
end Go.Proofs.YtmhgdcfmfcjagaaGreatDoor

namespace Go.Proofs.YtmhgdcfmfcjagaaGreatDoor
open Go.RowKit
theorem run_append_S {P : Program} (w : World) (base : Nat) (t tx ty e : TypeId) (i : TypeInfo) (z : Value) (ht : P.underlying t = some (.slice e)) (hi : P.info? e = some i) (hz : i.zero = some z)
    (hsize : i.size = 1) (hzs : z.cells.size = 1) (v : Value) (cs : List Value) (hown : Own w base v cs) (x : Value) (n : Nat) (news : List Value) (hs : Src P 1 tx x n news w)
    (hbytes : (cs.length + n) * i.bytes ≤ 140737488355328) (h63 : cs.length + n ≤ maxLen) (hbase : base ≤ w.heap.size) (hpos : v = .slice none 0 0 → 0 < n) :
    ∃ v' w', (Builtin.append_ #[t, tx] ty #[v, x]).run P w = .ok v' w' ∧ Own w' base v' (cs ++ news) ∧ w.grownBy w' v.ownBlock ∧ (v'.ownBlock = v.ownBlock ∨ (v'.ownBlock = some w.heap.size ∧ ∀ k, k < w.heap.size → w'.heap[k]? = w.heap[k]?)) := by
  have hn : news.length = n := by simpa using hs.newsLen
  have h63' : cs.length + n ≤ 9223372036854775807 := by simp only [maxLen] at h63; omega
  -- the arm that grows
  have grow : ∀ (b : Option Addr) (old : Nat), old < cs.length + n → v = .slice b cs.length old → (Builtin.firstCells 1 cs.length (.slice b cs.length old)).run P w.drew = .ok cs.toArray w.drew →
      ∃ v' w', (Builtin.append_ #[t, tx] ty #[v, x]).run P w = .ok v' w' ∧ Own w' base v' (cs ++ news) ∧ w.grownBy w' v.ownBlock ∧ (v'.ownBlock = v.ownBlock ∨ (v'.ownBlock = some w.heap.size ∧ ∀ k, k < w.heap.size → w'.heap[k]? = w.heap[k]?)) := by
    intro b old ho hv hold
    have hr := run_append_grow_src (P := P) w t tx ty e i z ht hi hz b cs.length old cs (by rw [hsize]; exact hold) x n news (by rw [hsize]; exact hs) ho (by omega) (growslice_fits ho hbytes)
    have hge := grownCap_ge w (cs.length + n) old e
    have hcm : grownCap w (cs.length + n) old e ≤ maxLen := grownCap_le_maxLen w (cs.length + n) old e h63
    have hnew : (w.drew.alloc (.cells ((cs ++ news).toArray ++ Builtin.zeroCells z.cells (grownCap w (cs.length + n) old e - (cs.length + n))) e)).heap[w.heap.size]? = some (.cells ((cs ++ news).toArray ++ Builtin.zeroCells z.cells (grownCap w (cs.length + n) old e - (cs.length + n))) e (0, 0)) := heap_alloc_new w.drew _
    refine ⟨.slice (some ⟨w.heap.size, 0, none⟩) (cs.length + n) (grownCap w (cs.length + n) old e), w.drew.alloc (.cells ((cs ++ news).toArray ++ Builtin.zeroCells z.cells (grownCap w (cs.length + n) old e - (cs.length + n))) e), by rw [hv]; exact hr, .inr ⟨w.heap.size, grownCap w (cs.length + n) old e, by rw [List.length_append, hn], hbase, by rw [List.length_append, hn]; exact hge, hcm, ?_, ?_, ?_⟩, ⟨rfl, rfl, rfl, by rw [size_alloc]; exact Nat.le_succ w.heap.size, fun k hk _ => Below.heap_alloc w.drew _ k hk⟩, .inr ⟨rfl, fun k hk => Below.heap_alloc w.drew _ k hk⟩⟩
    · intro j u hj
      rw [cell_of_row _ _ _ _ _ _ hnew, Nat.zero_add]
      have hj' : j < (cs ++ news).length := (List.getElem?_eq_some_iff.1 hj).1
      rw [Array.getElem?_append_left (by simpa using hj')]
      simpa using hj
    · refine there_of_row hnew 0 _ ?_
      simp only [Array.size_append, List.size_toArray, size_zeroCells, hzs, List.length_append, hn]
      omega
    · rw [size_alloc]; exact Nat.lt_succ_self _
  rcases hown with ⟨rfl, rfl⟩ | ⟨g, cap, rfl, h1, h2, h3, h4, h5, h6⟩
  · exact grow none 0 (by have := hpos rfl; simp; omega) rfl (run_firstCells_none w.drew 1 0 0 0)
  · by_cases hroom : cs.length + n ≤ cap
    · have hr := run_append_room_src (P := P) w t tx ty e i ht hi g 0 cs.length cap x n news (by rw [hsize]; exact hs) hroom
        (fun j hj => by rw [hsize, Nat.mul_one]; exact by have := (h5 (cs.length + j) (by omega)).1; simpa [Nat.add_assoc] using this)
        (fun j hj => by rw [hsize, Nat.mul_one]; exact by have := (h5 (cs.length + j) (by omega)).2; simpa [Nat.add_assoc] using this)
      rw [hsize, Nat.mul_one, Nat.zero_add] at hr
      have ht' : w.there g cs.length news.length := fun j hj => by have := h5 (cs.length + j) (by omega); simpa using this
      refine ⟨_, _, hr, .inr ⟨g, cap, by rw [List.length_append, hn], h1, by rw [List.length_append, hn]; exact hroom, h3, ?_, World.there_setCells h5 _ _ _, ?_⟩, ?_, .inl rfl⟩
      · intro j u hj
        by_cases hjl : j < cs.length
        · rw [List.getElem?_append_left hjl] at hj
          exact World.rangeAt_setCells_apart h4 g cs.length news (.inr (.inl (by omega))) j u hj
        · rw [List.getElem?_append_right (by omega)] at hj
          have := World.rangeAt_setCells_same w g cs.length news ht' (j - cs.length) u hj
          rwa [show cs.length + (j - cs.length) = 0 + j from by omega] at this
      · have := (But.setCells news cs.length (But.refl g w)).size; omega
      · have hb := But.setCells news cs.length (But.refl g w)
        exact ⟨hb.os, hb.tape, hb.output, hb.size, fun k hk hne => hb.block k hk (fun e => hne (by rw [e]; rfl))⟩
    · refine grow (some ⟨g, 0, none⟩) cap (by omega) rfl ?_
      exact run_firstCells_some w.drew 1 cs.length ⟨g, 0, none⟩ cs.length cap cs (by simp) (fun j u hj => by rw [Addr.add_mid]; exact h4 j u hj)
structure Grow (w w' : World) (v v' : Value) : Prop where
  os : w'.os = w.os
  tape : w'.tape = w.tape
  output : w'.output = w.output
  size : w.heap.size ≤ w'.heap.size
  old : ∀ k, k < w.heap.size → v.ownBlock ≠ some k → w'.heap[k]? = w.heap[k]?
  alt : v'.ownBlock = v.ownBlock ∨ ((∀ k, v'.ownBlock = some k → w.heap.size ≤ k) ∧ ∀ k, k < w.heap.size → w'.heap[k]? = w.heap[k]?)
theorem Grow.keepG {w w' : World} {v v' : Value} (h : Grow w w' v v') : Keep (OwnS v) w w' := ⟨h.os, h.tape, h.output, h.size, h.old⟩
theorem append_one (t e : TypeId) (z : Value) (by_ : Nat) (hb24 : by_ ≤ 24) (hu : Tryz.prog.underlying t = some (.slice e)) (hinfo : (Tryz.prog.info? e).map (fun i => (i.zero, i.size, i.bytes)) = some (some z, 1, by_)) (hzs : z.cells.size = 1)
    (w : World) (base : Nat) (v : Value) (cs : List Value) (x : Value) (hx : x.oneCell' = true) (hown : Own w base v cs) (hlen : cs.length ≤ 2000000) (hbase : base ≤ w.heap.size) :
    ∃ v' w', (Builtin.append_ #[t, t] t #[v, .slice (some ⟨w.heap.size, 0, none⟩) 1 1]).run Tryz.prog (w.alloc (.cells #[x] e)) = .ok v' w' ∧ Own w' base v' (cs ++ [x]) ∧ Grow w w' v v' := by
  obtain ⟨i0, hi, hz0, hz1, hz2⟩ := info_parts hinfo
  have hsrc : Src Tryz.prog 1 t (.slice (some ⟨w.heap.size, 0, none⟩) 1 1) 1 [x] (w.alloc (.cells #[x] e)) :=
    Src.ofSlice _ hu ⟨w.heap.size, 0, none⟩ 1 1 [x] (by simp) (fun j u hj => by
      rw [Addr.add_mid, cell_of_row _ _ _ _ _ _ (heap_alloc_new w _), Nat.zero_add]; simpa using hj) (fun u hu => by simp at hu; subst hu; exact hx)
  obtain ⟨v', w', h1, h2, h3, h4⟩ := run_append_S (P := Tryz.prog) (w.alloc (.cells #[x] e)) base t t t e i0 z hu hi hz0 hz1 hzs v cs (hown.alloc _) _ 1 [x] hsrc
    (by rw [hz2]; exact Nat.le_trans (Nat.mul_le_mul (show cs.length + 1 ≤ 2000001 by omega) hb24) (by decide)) (by rw [maxLen]; omega) (by rw [size_alloc]; omega) (fun _ => by omega)
  have hs := h3.size
  rw [size_alloc] at hs
  refine ⟨v', w', h1, h2, ⟨h3.os, h3.tape, h3.output, by omega, fun k hk hne => (h3.block k (by rw [size_alloc]; omega) (Ne.symm hne)).trans (Below.heap_alloc w _ k hk), ?_⟩⟩
  rcases h4 with h4 | ⟨h4, h5⟩
  · exact .inl h4
  · refine .inr ⟨fun k hk => ?_, fun k hk => (h5 k (by rw [size_alloc]; omega)).trans (Below.heap_alloc w _ k hk)⟩
    rw [h4, size_alloc] at hk
    injection hk with hk
    omega
def OwnM (m : Nat) (w : World) (v : Value) (n : Nat) (cs : List Value) : Prop :=
  (v = .slice none 0 0 ∧ n = 0 ∧ cs = []) ∨
  ∃ g cap, v = .slice (some ⟨g, 0, none⟩) n cap ∧ n ≤ cap ∧ cap ≤ maxLen ∧ cs.length = n * m ∧ w.rangeAt g 0 cs ∧ w.there g 0 (cap * m) ∧ g < w.heap.size
theorem OwnM.nil (m : Nat) (w : World) : OwnM m w (.slice none 0 0) 0 [] := .inl ⟨rfl, rfl, rfl⟩
theorem OwnM.len {m : Nat} {w : World} {v : Value} {n : Nat} {cs : List Value} (h : OwnM m w v n cs) : cs.length = n * m := by
  rcases h with ⟨_, rfl, rfl⟩ | ⟨_, _, _, _, _, h, _⟩
  · simp
  · exact h
theorem OwnM.lt {m : Nat} {w : World} {v : Value} {n : Nat} {cs : List Value} (h : OwnM m w v n cs) : ∀ k, v.ownBlock = some k → k < w.heap.size := by
  rcases h with ⟨rfl, _⟩ | ⟨g, _, rfl, _, _, _, _, _, h⟩
  · intro k hk; cases hk
  · intro k hk; cases hk; exact h
theorem OwnM.kept {m : Nat} {w w' : World} {v : Value} {n : Nat} {cs : List Value} (h : OwnM m w v n cs) (hs : w.heap.size ≤ w'.heap.size) (hb : ∀ g, v.ownBlock = some g → w'.heap[g]? = w.heap[g]?) : OwnM m w' v n cs := by
  rcases h with h | ⟨g, cap, rfl, h2, h3, h0, h4, h5, h6⟩
  · exact .inl h
  · exact .inr ⟨g, cap, rfl, h2, h3, h0, rangeAt_heap h4 (hb g rfl), there_heap h5 (hb g rfl), by omega⟩
theorem OwnM.below {m : Nat} {w w' : World} {v : Value} {n : Nat} {cs : List Value} (h : OwnM m w v n cs) (hb : Below w.heap.size w w') : OwnM m w' v n cs :=
  h.kept hb.size fun g hg => hb.block g (h.lt g hg)
theorem OwnM.alloc {m : Nat} {w : World} {v : Value} {n : Nat} {cs : List Value} (h : OwnM m w v n cs) (o : Obj) : OwnM m (w.alloc o) v n cs := h.below ((Below.refl _ _).alloc (Nat.le_refl _) _)
theorem OwnM.keep {m : Nat} {S : Nat → Prop} {w w' : World} {v : Value} {n : Nat} {cs : List Value} (h : OwnM m w v n cs) (hb : Keep S w w') (hne : ∀ k, v.ownBlock = some k → ¬ S k) : OwnM m w' v n cs :=
  h.kept hb.size fun g hg => hb.block g (h.lt g hg) (hne g hg)
theorem OwnM.shape {m : Nat} {w : World} {v : Value} {n : Nat} {cs : List Value} (h : OwnM m w v n cs) : ∃ a cap, v = .slice a n cap ∧ n ≤ cap ∧ cap ≤ 9223372036854775807 := by
  rcases h with ⟨rfl, rfl, _⟩ | ⟨g, cap, rfl, h2, h3, _⟩
  · exact ⟨none, 0, rfl, Nat.le_refl _, by omega⟩
  · exact ⟨_, cap, rfl, h2, by simp only [maxLen] at h3; omega⟩
theorem OwnM.cell {m : Nat} {w : World} {v : Value} {n : Nat} {cs : List Value} (h : OwnM m w v n cs) {j : Nat} {u : Value} (hu : cs[j]? = some u) : ∃ g cap, v = .slice (some ⟨g, 0, none⟩) n cap ∧ w.cell? ⟨g, j, none⟩ = some u ∧ g < w.heap.size := by
  rcases h with ⟨_, _, rfl⟩ | ⟨g, cap, rfl, _, _, _, h4, _, h6⟩
  · simp at hu
  · refine ⟨g, cap, rfl, ?_, h6⟩
    have := h4 j u hu
    rwa [Nat.zero_add] at this
theorem run_append_M {P : Program} {m : Nat} (w : World) (t tx ty e : TypeId) (i : TypeInfo) (z : Value) (ht : P.underlying t = some (.slice e)) (hi : P.info? e = some i) (hz : i.zero = some z)
    (hsize : i.size = m) (hzs : z.cells.size = m) (v : Value) (n0 : Nat) (cs : List Value) (hown : OwnM m w v n0 cs) (x : Value) (n : Nat) (news : List Value) (hs : Src P m tx x n news w)
    (hbytes : (n0 + n) * i.bytes ≤ 140737488355328) (h63 : n0 + n ≤ maxLen) (hpos : v = .slice none 0 0 → 0 < n) :
    ∃ v' w', (Builtin.append_ #[t, tx] ty #[v, x]).run P w = .ok v' w' ∧ OwnM m w' v' (n0 + n) (cs ++ news) ∧ Grow w w' v v' := by
  have hn : news.length = n * m := hs.newsLen
  have hcl := hown.len
  have h63' : n0 + n ≤ 9223372036854775807 := by simp only [maxLen] at h63; omega
  have grow : ∀ (b : Option Addr) (old : Nat), old < n0 + n → v = .slice b n0 old → (Builtin.firstCells m n0 (.slice b n0 old)).run P w.drew = .ok cs.toArray w.drew →
      ∃ v' w', (Builtin.append_ #[t, tx] ty #[v, x]).run P w = .ok v' w' ∧ OwnM m w' v' (n0 + n) (cs ++ news) ∧ Grow w w' v v' := by
    intro b old ho hv hold
    have hr := run_append_grow_src (P := P) w t tx ty e i z ht hi hz b n0 old cs (by rw [hsize]; exact hold) x n news (by rw [hsize]; exact hs) ho (by omega) (growslice_fits ho hbytes)
    have hge := grownCap_ge w (n0 + n) old e
    have hcm : grownCap w (n0 + n) old e ≤ maxLen := grownCap_le_maxLen w (n0 + n) old e h63
    have hnew : (w.drew.alloc (.cells ((cs ++ news).toArray ++ Builtin.zeroCells z.cells (grownCap w (n0 + n) old e - (n0 + n))) e)).heap[w.heap.size]? = some (.cells ((cs ++ news).toArray ++ Builtin.zeroCells z.cells (grownCap w (n0 + n) old e - (n0 + n))) e (0, 0)) := heap_alloc_new w.drew _
    refine ⟨.slice (some ⟨w.heap.size, 0, none⟩) (n0 + n) (grownCap w (n0 + n) old e), w.drew.alloc (.cells ((cs ++ news).toArray ++ Builtin.zeroCells z.cells (grownCap w (n0 + n) old e - (n0 + n))) e), by rw [hv]; exact hr, .inr ⟨w.heap.size, grownCap w (n0 + n) old e, rfl, hge, hcm, ?_, ?_, ?_, ?_⟩, ⟨rfl, rfl, rfl, by rw [size_alloc]; exact Nat.le_succ w.heap.size, fun k hk _ => Below.heap_alloc w.drew _ k hk, .inr ⟨fun k hk => ?_, fun k hk => Below.heap_alloc w.drew _ k hk⟩⟩⟩
    · rw [List.length_append, hn, hcl, Nat.add_mul]
    · intro j u hj
      rw [cell_of_row _ _ _ _ _ _ hnew, Nat.zero_add]
      have hj' : j < (cs ++ news).length := (List.getElem?_eq_some_iff.1 hj).1
      rw [Array.getElem?_append_left (by simpa using hj')]
      simpa using hj
    · refine there_of_row hnew 0 _ ?_
      simp only [Array.size_append, List.size_toArray, size_zeroCells, hzs, List.length_append, hn, hcl]
      rw [← Nat.add_mul, ← Nat.add_mul]
      exact Nat.le_of_eq (by rw [Nat.zero_add]; congr 1; omega)
    · rw [size_alloc]; exact Nat.lt_succ_self _
    · have hk : some w.heap.size = some k := hk
      injection hk with hk
      omega
  rcases hown with ⟨rfl, rfl, rfl⟩ | ⟨g, cap, rfl, h2, h3, h0, h4, h5, h6⟩
  · exact grow none 0 (by have := hpos rfl; omega) rfl (run_firstCells_none w.drew m 0 0 0)
  · by_cases hroom : n0 + n ≤ cap
    · have hle : n0 * m + n * m ≤ cap * m := by rw [← Nat.add_mul]; exact Nat.mul_le_mul_right _ hroom
      have hr := run_append_room_src (P := P) w t tx ty e i ht hi g 0 n0 cap x n news (by rw [hsize]; exact hs) hroom
        (fun j hj => by rw [hsize]; exact by have := (h5 (n0 * m + j) (by omega)).1; simpa [Nat.add_assoc] using this)
        (fun j hj => by rw [hsize]; exact by have := (h5 (n0 * m + j) (by omega)).2; simpa [Nat.add_assoc] using this)
      rw [hsize, Nat.zero_add] at hr
      have ht' : w.there g (n0 * m) news.length := fun j hj => by have := h5 (n0 * m + j) (by omega); simpa using this
      refine ⟨_, _, hr, .inr ⟨g, cap, rfl, hroom, h3, ?_, ?_, World.there_setCells h5 _ _ _, ?_⟩, ?_⟩
      · rw [List.length_append, hn, h0, Nat.add_mul]
      · intro j u hj
        by_cases hjl : j < cs.length
        · rw [List.getElem?_append_left hjl] at hj
          exact World.rangeAt_setCells_apart h4 g (n0 * m) news (.inr (.inl (by omega))) j u hj
        · rw [List.getElem?_append_right (by omega)] at hj
          have := World.rangeAt_setCells_same w g (n0 * m) news ht' (j - cs.length) u hj
          rwa [show n0 * m + (j - cs.length) = 0 + j from by omega] at this
      · have := (But.setCells news (n0 * m) (But.refl g w)).size; omega
      · have hb := But.setCells news (n0 * m) (But.refl g w)
        exact ⟨hb.os, hb.tape, hb.output, hb.size, fun k hk hne => hb.block k hk (fun e => hne (by rw [e]; rfl)), .inl rfl⟩
    · refine grow (some ⟨g, 0, none⟩) cap (by omega) rfl ?_
      exact run_firstCells_some w.drew m n0 ⟨g, 0, none⟩ n0 cap cs h0 (fun j u hj => by rw [Addr.add_mid]; exact h4 j u hj)
theorem append_oneM {m : Nat} (t e : TypeId) (z : Value) (by_ : Nat) (hb64 : by_ ≤ 128) (hu : Tryz.prog.underlying t = some (.slice e)) (hinfo : (Tryz.prog.info? e).map (fun i => (i.zero, i.size, i.bytes)) = some (some z, m, by_)) (hzs : z.cells.size = m)
    (w : World) (v : Value) (n0 : Nat) (cs : List Value) (xs : List Value) (hm : xs.length = m) (h1 : ∀ u ∈ xs, u.oneCell' = true) (hown : OwnM m w v n0 cs) (hlen : n0 ≤ 2000000) :
    ∃ v' w', (Builtin.append_ #[t, t] t #[v, .slice (some ⟨w.heap.size, 0, none⟩) 1 1]).run Tryz.prog (w.alloc (.cells xs.toArray e)) = .ok v' w' ∧ OwnM m w' v' (n0 + 1) (cs ++ xs) ∧ Grow w w' v v' := by
  obtain ⟨i0, hi, hz0, hz1, hz2⟩ := info_parts hinfo
  have hsrc : Src Tryz.prog m t (.slice (some ⟨w.heap.size, 0, none⟩) 1 1) 1 xs (w.alloc (.cells xs.toArray e)) :=
    Src.ofSlice _ hu ⟨w.heap.size, 0, none⟩ 1 1 xs (by rw [hm, Nat.one_mul]) (fun j u hj => by
      rw [Addr.add_mid, cell_of_row _ _ _ _ _ _ (heap_alloc_new w _), Nat.zero_add]; simpa using hj) h1
  obtain ⟨v', w', a1, a2, a3⟩ := run_append_M (P := Tryz.prog) (w.alloc (.cells xs.toArray e)) t t t e i0 z hu hi hz0 hz1 hzs v n0 cs (hown.alloc _) _ 1 xs hsrc
    (by rw [hz2]; exact Nat.le_trans (Nat.mul_le_mul (show n0 + 1 ≤ 2000001 by omega) hb64) (by decide)) (by rw [maxLen]; omega) (fun _ => by omega)
  have hs := a3.size
  rw [size_alloc] at hs
  refine ⟨v', w', a1, a2, ⟨a3.os, a3.tape, a3.output, by omega, fun k hk hne => (a3.old k (by rw [size_alloc]; omega) hne).trans (Below.heap_alloc w _ k hk), ?_⟩⟩
  rcases a3.alt with h4 | ⟨h4, h5⟩
  · exact .inl h4
  · refine .inr ⟨fun k hk => ?_, fun k hk => (h5 k (by rw [size_alloc]; omega)).trans (Below.heap_alloc w _ k hk)⟩
    have := h4 k hk
    rw [size_alloc] at this
    omega
end Go.Proofs.YtmhgdcfmfcjagaaGreatDoor
