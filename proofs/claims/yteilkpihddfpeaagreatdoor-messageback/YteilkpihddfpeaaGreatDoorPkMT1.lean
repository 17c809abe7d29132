import Derived.Test.YteilkpihddfpeaaGreatDoorPkMW4
import Derived.Test.YteilkpihddfpeaaGreatDoorPkMW7
namespace Go.Proofs.YteilkpihddfpeaaGreatDoor
open Go.RowKit Cod
namespace Msg

/-- a taking lies in block c, its Reader in b -/
structure Tk (w : World) (b c : Nat) (s : TS) : Prop where
  row : w.heap[c]? = some (.cells #[.pointer (some ⟨b, 0, none⟩), .bool s.2] 58 (0, 0))
  rd : Rdr w b s.1
  ne : c ≠ b
  sm : s.1.rest.length ≤ 8796093022000
def BC (b c : Nat) : Nat → Prop := fun k => k = b ∨ k = c
theorem Tk.lt {w : World} {b c : Nat} {s : TS} (h : Tk w b c s) : c < w.heap.size := lt_of_heap h.row
theorem Tk.c0 {w : World} {b c : Nat} {s : TS} (h : Tk w b c s) : w.cell? ⟨c, 0, none⟩ = some (.pointer (some ⟨b, 0, none⟩)) := by rw [cell_of_row _ _ _ _ _ _ h.row]; rfl
theorem Tk.c1 {w : World} {b c : Nat} {s : TS} (h : Tk w b c s) : w.cell? ⟨c, 1, none⟩ = some (.bool s.2) := by rw [cell_of_row _ _ _ _ _ _ h.row]; rfl
theorem Tk.f1 {w : World} {b c : Nat} {s : TS} (h : Tk w b c s) : w.frozen? ⟨c, 1, none⟩ = false := frozen_of_row _ _ _ _ _ h.row
theorem Tk.below {w w' : World} {b c : Nat} {s : TS} (h : Tk w b c s) (hb : Below w.heap.size w w') : Tk w' b c s := ⟨(hb.block c h.lt).trans h.row, h.rd.below hb, h.ne, h.sm⟩
theorem Tk.drew {w : World} {b c : Nat} {s : TS} (h : Tk w b c s) : Tk w.drew b c s := h.below (Below.refl _ w).drew
theorem Tk.keep {S : Nat → Prop} {w w' : World} {b c : Nat} {s : TS} (h : Tk w b c s) (hb : Keep S w w') (h1 : ¬ S b) (h2 : ¬ S c) : Tk w' b c s := ⟨(hb.block c h.lt h2).trans h.row, h.rd.keep hb h1, h.ne, h.sm⟩
theorem step_len {α : Type} {st : RS} {x : Rd α} (h : ∀ v r, x = .good v r → r.length ≤ st.rest.length) : (st.step x).rest.length ≤ st.rest.length := by
  unfold RS.step
  split
  · cases x with
    | bad e => exact Nat.le_refl _
    | good v r => exact h v r rfl
  · exact Nat.le_refl _
/-- its Reader has read -/
theorem Tk.read {α : Type} {w w' : World} {b c : Nat} {s : TS} (h : Tk w b c s) {x : Rd α} (hr : Rdr w' b (s.1.step x)) (hb : But b w w') (hl : ∀ v r, x = .good v r → r.length ≤ s.1.rest.length) : Tk w' b c (s.1.step x, s.2) :=
  ⟨(hb.block c h.lt h.ne).trans h.row, hr, h.ne, Nat.le_trans (step_len hl) h.sm⟩
/-- its mark is set -/
theorem Tk.mark {w w' : World} {b c : Nat} {s : TS} (h : Tk w b c s) (q : Bool) (hr : w'.heap[c]? = some (.cells #[.pointer (some ⟨b, 0, none⟩), .bool q] 58 (0, 0))) (hb : But c w w') : Tk w' b c (s.1, q) :=
  ⟨hr, h.rd.keep (S := fun k => k = c) (Keep.ofBut hb rfl) (fun e => h.ne e.symm), h.ne, h.sm⟩
theorem bc_both {w w1 w2 : World} {b c : Nat} (h : But b w w1) (k : But c w1 w2) : Keep (BC b c) w w2 :=
  (Keep.ofBut h (.inl rfl) : Keep (BC b c) w w1).trans (T := BC b c) (Keep.ofBut k (.inr rfl)) (fun _ _ e => e)
/-- lists that came out -/
def Nw (lo hi : Nat) (v : Value) : Prop := ∀ x n c, v = .slice (some x) n c → lo ≤ x.block ∧ x.block < hi
theorem Nw.mono {lo hi lo' hi' : Nat} {v : Value} (h : Nw lo hi v) (h1 : lo' ≤ lo) (h2 : hi ≤ hi') : Nw lo' hi' v := fun x n c e => by
  have := h x n c e
  exact ⟨by omega, by omega⟩
theorem Nw.nil (lo hi : Nat) : Nw lo hi (.slice none 0 0) := fun x n c e => by cases e
theorem Nw.slc {S : Nat → Prop} {w w' : World} {lo hi : Nat} {u : Value} {ps : List (List UInt8)} (h : Nw lo hi u) (hs : Slc w u ps) (hb : Keep S w w') (hS : ∀ k, lo ≤ k → k < hi → ¬ S k) : Slc w' u ps :=
  hs.keep hb (fun x n q e _ hk => hS _ (h x n q e).1 (h x n q e).2 hk)
theorem Nw.slcI {S : Nat → Prop} {w w' : World} {lo hi : Nat} {u : Value} {ps : List Int} (h : Nw lo hi u) (hs : SlcI w u ps) (hb : Keep S w w') (hS : ∀ k, lo ≤ k → k < hi → ¬ S k) : SlcI w' u ps :=
  hs.keep hb (fun x n q e _ hk => hS _ (h x n q e).1 (h x n q e).2 hk)
theorem nw_of {w : World} {base : Nat} {v : Value} {cs : List Value} (h : Own w base v cs) : Nw base w.heap.size v := fun x n c e => by
  rcases h with ⟨rfl, _⟩ | ⟨g, cap, rfl, h1, h2, h3, h4, h5, h6⟩
  · cases e
  · cases e; exact ⟨h1, h6⟩
theorem own_slcI {w : World} {base : Nat} {v : Value} {L : List Nat} (h : Own w base v (nvs L)) : SlcI w v (ints L) := by
  rcases h with ⟨rfl, h0⟩ | ⟨g, cap, rfl, h1, h2, h3, h4, h5, h6⟩
  · have : L = [] := by simpa [nvs] using h0
    subst this
    exact ⟨none, 0, rfl, fun j c hc => by simp [ints] at hc⟩
  · refine ⟨some ⟨g, 0, none⟩, cap, by rw [nvs_length, ints, List.length_map], fun j c hc => ⟨_, rfl, h6, ?_⟩⟩
    rw [Addr.add_mid]
    refine h4 j _ ?_
    rw [ints, List.getElem?_map] at hc
    rw [nvs, List.getElem?_map]
    cases hL : L[j]? with
    | none => rw [hL] at hc; cases hc
    | some n => rw [hL] at hc; obtain rfl := Option.some.inj hc; rfl
theorem own_slc {w : World} {base : Nat} {v : Value} {L : List (List UInt8)} (h : Own w base v (svs L)) : Slc w v L := by
  rcases h with ⟨rfl, h0⟩ | ⟨g, cap, rfl, h1, h2, h3, h4, h5, h6⟩
  · have : L = [] := by simpa [svs] using h0
    subst this
    exact ⟨none, 0, rfl, fun j c hc => by simp at hc⟩
  · refine ⟨some ⟨g, 0, none⟩, cap, by rw [svs_length], fun j c hc => ⟨_, rfl, h6, ?_⟩⟩
    rw [Addr.add_mid]
    refine h4 j _ ?_
    rw [svs, List.getElem?_map, hc]; rfl

theorem Own.slT {w : World} {base : Nat} {v : Value} {L : List (List UInt8)} (h : Own w base v (svs L)) : ∃ p q, v = .slice p L.length q := by
  obtain ⟨a, c, h⟩ := h.shape
  exact ⟨a, c, by rw [h, svs_length]⟩
theorem Own.slI {w : World} {base : Nat} {v : Value} {L : List Nat} (h : Own w base v (nvs L)) : ∃ p q, v = .slice p L.length q := by
  obtain ⟨a, c, h⟩ := h.shape
  exact ⟨a, c, by rw [h, nvs_length]⟩
set_option maxRecDepth 100000 in
set_option maxHeartbeats 400000 in
theorem finds_any {b c : Nat} {s : TS} (ok : Bool) (w : World) (h : Tk w b c s) :
    Calls Tryz.prog 119 #[.pointer (some ⟨c, 0, none⟩), .bool ok] w fun e w' => e = .returned (.tuple #[]) ∧ Tk w' b c (s.1, s.2 || !ok) ∧ But c w w' := by
  have c1 := h.c1
  have f1 := h.f1
  have H := hid h
  obtain ⟨st, q⟩ := s
  clear h
  cases q <;> cases ok <;>
  · go_enter Tryz.func119, Tryz.ntmps119
    go_wp2
    go_end0
    exact ⟨rfl, H.out.mark _ (row2_set1 H.out.row) ((But.refl _ _).setCell _ _), (But.refl _ _).setCell _ _⟩
set_option maxRecDepth 100000 in
set_option maxHeartbeats 400000 in
theorem takeMark_any {b c : Nat} {s : TS} (z lo hi : Int) (w : World) (h : Tk w b c s) :
    Calls Tryz.prog 112 #[.pointer (some ⟨c, 0, none⟩), .int .i64 z, .int .i64 lo, .int .i64 hi] w fun e w' => e = .returned (.tuple #[.int .i64 ((tMark lo hi s).1 : Int), .bool (wi ((tMark lo hi s).1 : Int) lo hi)]) ∧ Tk w' b c (tMark lo hi s).2 ∧ Keep (BC b c) w w' := by
  have c0 := h.c0
  have i1 := rByte_any b s.1 w h.rd
  have e1 : (tMark lo hi s).1 = s.1.val 0 (rdByte s.1.rest) := rfl
  have e2 : (tMark lo hi s).2 = (s.1.step (rdByte s.1.rest), s.2 || !wi ((s.1.val 0 (rdByte s.1.rest) : Nat) : Int) lo hi) := rfl
  rw [e1, e2]
  generalize s.1.val 0 (rdByte s.1.rest) = n at *
  have H := hid h
  clear h e1 e2
  go_enter Tryz.func112, Tryz.ntmps112
  go_wp2_with (first
    | (go_at_call 85; refine i1.mono ?_; rintro e w1 ⟨rfl, h1, h2⟩; have hT := H.out.read h1 h2 (pf_byte.le); have i2 := within_any (n : Int) lo hi w1; have i3 := finds_any (wi (n : Int) lo hi) w1 hT; have H2 := hid h2; clear h1 h2 hT)
    | (go_at_call 15; refine i2.mono ?_; rintro e w' ⟨rfl, hw'⟩; rw [hw']; clear hw' w')
    | (go_at_call 119; refine i3.mono ?_; rintro e w2 ⟨rfl, h3, h4⟩; have H3 := hid h3; have H4 := hid (bc_both H2.out h4); clear h3 h4))
  go_ret2
  exact ⟨rfl, H3.out, H4.out⟩
set_option maxRecDepth 100000 in
set_option maxHeartbeats 400000 in
theorem takeSize_any {b c : Nat} {s : TS} (z : Int) (w : World) (h : Tk w b c s) :
    Calls Tryz.prog 115 #[.pointer (some ⟨c, 0, none⟩), .int .i64 z] w fun e w' => e = .returned (.int .i64 ((tSize s).1 : Int)) ∧ Tk w' b c (tSize s).2 ∧ Keep (BC b c) w w' := by
  have c0 := h.c0
  have i1 := rNum_any b s.1 w h.rd
  have e1 : (tSize s).1 = s.1.val 0 (rdNum s.1.rest) := rfl
  have e2 : (tSize s).2 = (s.1.step (rdNum s.1.rest), s.2 || !isSz ((s.1.val 0 (rdNum s.1.rest) : Nat) : Int)) := rfl
  rw [e1, e2]
  generalize s.1.val 0 (rdNum s.1.rest) = n at *
  have H := hid h
  clear h e1 e2
  go_enter Tryz.func115, Tryz.ntmps115
  go_wp2_with (first
    | (go_at_call 118; refine i1.mono ?_; rintro e w1 ⟨rfl, h1, h2⟩; have hT := H.out.read h1 h2 (pf_num.le); have i2 := isSize_any (n : Int) w1; have i3 := finds_any (isSz (n : Int)) w1 hT; have H2 := hid h2; clear h1 h2 hT)
    | (go_at_call 100; refine i2.mono ?_; rintro e w' ⟨rfl, hw'⟩; rw [hw']; clear hw' w')
    | (go_at_call 119; refine i3.mono ?_; rintro e w2 ⟨rfl, h3, h4⟩; have H3 := hid h3; have H4 := hid (bc_both H2.out h4); clear h3 h4))
  go_ret
  exact ⟨rfl, H3.out, H4.out⟩
set_option maxRecDepth 100000 in
set_option maxHeartbeats 400000 in
theorem takeRoot_any {b c : Nat} {s : TS} (z : Value) (w : World) (h : Tk w b c s) :
    Calls Tryz.prog 114 #[.pointer (some ⟨c, 0, none⟩), z] w fun e w' => e = .returned (sv (tRoot s).1) ∧ Tk w' b c (tRoot s).2 ∧ Keep (BC b c) w w' := by
  have c0 := h.c0
  have i1 := rRaw_any b s.1 32 w h.rd
  have e1 : (tRoot s).1 = s.1.val [] (rdRaw s.1.rest 32) := rfl
  have e2 : (tRoot s).2 = (s.1.step (rdRaw s.1.rest 32), s.2) := by
    show (_, s.2 || !true) = _
    rw [Bool.not_true, Bool.or_false]
  rw [e1, e2]
  generalize s.1.val [] (rdRaw s.1.rest 32) = n at *
  have H := hid h
  clear h e1 e2
  go_enter Tryz.func114, Tryz.ntmps114
  go_wp2_with (go_at_call 123; refine i1.mono ?_; rintro e w1 ⟨rfl, h1, h2⟩; have H1 := hid (H.out.read h1 h2 ((pf_raw 32).le)); have H2 := hid h2; clear h1 h2)
  go_ret
  exact ⟨rfl, H1.out, Keep.ofBut H2.out (.inl rfl)⟩
/-- lists that were taken -/
def TkL (w : World) (b c : Nat) (s : TS) (e : Ending) (w' : World) (Q : Value → Prop) : Prop :=
  ∃ v, e = .returned v ∧ Q v ∧ Nw w.heap.size w'.heap.size v ∧ Tk w' b c s ∧ Keep (BC b c) w w'
set_option maxRecDepth 100000 in
set_option maxHeartbeats 400000 in
theorem takeHashes_any {b c : Nat} {s : TS} (z : Value) (w : World) (h : Tk w b c s) :
    Calls Tryz.prog 111 #[.pointer (some ⟨c, 0, none⟩), z] w fun e w' => TkL w b c (tHashes s).2 e w' fun v => Slc w' v (tHashes s).1 := by
  have c0 := h.c0
  have i1 := rHashes_any b s.1 32768 w (.inr (by omega)) h.rd
  have e1 : (tHashes s).1 = s.1.val [] (rdHashes s.1.rest 32768) := rfl
  have e2 : (tHashes s).2 = (s.1.step (rdHashes s.1.rest 32768), s.2) := by
    show (_, s.2 || !true) = _
    rw [Bool.not_true, Bool.or_false]
  rw [e1, e2]
  generalize s.1.val [] (rdHashes s.1.rest 32768) = n at *
  have H := hid h
  clear h e1 e2
  go_enter Tryz.func111, Tryz.ntmps111
  go_wp2_with (go_at_call 120; refine i1.mono ?_; rintro e w1 ⟨v, rfl, h0, h1, h2⟩; obtain ⟨p, q, rfl⟩ := Own.slT h0; have H0 := hid h0; have H1 := hid (H.out.read h1 h2 ((pf_hashes 32768).le)); have H2 := hid h2; clear h0 h1 h2)
  go_ret
  exact ⟨_, rfl, own_slc H0.out, nw_of H0.out, H1.out, Keep.ofBut H2.out (.inl rfl)⟩
set_option maxRecDepth 100000 in
set_option maxHeartbeats 400000 in
theorem takeTexts_any {b c : Nat} {s : TS} (z : Value) (least many most : Int) (w : World) (h : Tk w b c s) :
    Calls Tryz.prog 117 #[.pointer (some ⟨c, 0, none⟩), z, .int .i64 least, .int .i64 many, .int .i64 most] w fun e w' => TkL w b c (tTexts least many most s).2 e w' fun v => Slc w' v (tTexts least many most s).1 := by
  have c0 := h.c0
  have i1 := rTexts_any b s.1 many most w (.inl h.sm) h.rd
  have e1 : (tTexts least many most s).1 = s.1.val [] (rdTexts s.1.rest many most) := rfl
  have e2 : (tTexts least many most s).2 = (s.1.step (rdTexts s.1.rest many most), s.2 || !decide (least ≤ ((s.1.val [] (rdTexts s.1.rest many most)).length : Int))) := rfl
  rw [e1, e2]
  generalize s.1.val [] (rdTexts s.1.rest many most) = n at *
  have H := hid h
  have hcl := h.lt
  clear h e1 e2
  go_enter Tryz.func117, Tryz.ntmps117
  go_wp2_with (first
    | (go_at_call 125; refine i1.mono ?_; rintro e w1 ⟨v, rfl, h0, h1, h2⟩; obtain ⟨p, q, rfl⟩ := Own.slT h0; have H0 := hid h0; have i3 := finds_any (decide (least ≤ (n.length : Int))) w1 (H.out.read h1 h2 ((pf_texts many most).le)); have H2 := hid h2; clear h0 h1 h2)
    | (go_at_call 119; refine i3.mono ?_; rintro e w2 ⟨rfl, h3, h4⟩; have H3 := hid h3; have H4 := hid h4; clear h3 h4))
  go_ret
  exact ⟨_, rfl, (nw_of H0.out).slc (own_slc H0.out) (Keep.ofBut H4.out rfl : Keep (fun k => k = c) _ _) (fun k hk _ e => by omega), (nw_of H0.out).mono (Nat.le_refl _) H4.out.size, H3.out, bc_both H2.out H4.out⟩
set_option maxRecDepth 100000 in
set_option maxHeartbeats 400000 in
theorem takeSizes_any {b c : Nat} {s : TS} (z : Value) (many : Int) (w : World) (h : Tk w b c s) :
    Calls Tryz.prog 116 #[.pointer (some ⟨c, 0, none⟩), z, .int .i64 many] w fun e w' => TkL w b c (tSizes many s).2 e w' fun v => SlcI w' v (ints (tSizes many s).1) := by
  have c0 := h.c0
  have i1 := rRising_any b s.1 many w (.inl (by have := h.sm; omega)) h.rd
  have e1 : (tSizes many s).1 = s.1.val [] (rdRising s.1.rest many) := rfl
  have e2 : (tSizes many s).2 = (s.1.step (rdRising s.1.rest many), s.2 || !arSz (ints (s.1.val [] (rdRising s.1.rest many))) many) := rfl
  rw [e1, e2]
  generalize s.1.val [] (rdRising s.1.rest many) = n at *
  have H := hid h
  have hcl := h.lt
  clear h e1 e2
  go_enter Tryz.func116, Tryz.ntmps116
  go_wp2_with (first
    | (go_at_call 124; refine i1.mono ?_; rintro e w1 ⟨v, rfl, h0, h1, h2⟩; have hT := H.out.read h1 h2 ((pf_rising many).le); have i2 := areSizes_any v (ints n) many (by rw [ints_len]; have := h0.len; rwa [nvs_length] at this) w1 (own_slcI h0); have i3 := finds_any (arSz (ints n) many) w1 hT; obtain ⟨p, q, rfl⟩ := Own.slI h0; have H0 := hid h0; have H2 := hid h2; clear h0 h1 h2 hT)
    | (go_at_call 101; refine i2.mono ?_; rintro e w' ⟨rfl, hw'⟩; rw [hw']; clear hw' w')
    | (go_at_call 119; refine i3.mono ?_; rintro e w2 ⟨rfl, h3, h4⟩; have H3 := hid h3; have H4 := hid h4; clear h3 h4))
  go_ret
  exact ⟨_, rfl, (nw_of H0.out).slcI (own_slcI H0.out) (Keep.ofBut H4.out rfl : Keep (fun k => k = c) _ _) (fun k hk _ e => by omega), (nw_of H0.out).mono (Nat.le_refl _) H4.out.size, H3.out, bc_both H2.out H4.out⟩
end Msg
end Go.Proofs.YteilkpihddfpeaaGreatDoor

namespace Go.Proofs.YteilkpihddfpeaaGreatDoor
open Go.RowKit Cod
namespace Msg

/-- the j-th element of block g reads as x; its lists lie between lo and hi -/
def El (w : World) (lo hi g j : Nat) (x : Ask) : Prop :=
  ∃ ul ue ua, w.cell? ⟨g, j * 7, none⟩ = some (.int .i64 x.kind) ∧ w.cell? ⟨g, j * 7 + 1, none⟩ = some (.int .i64 x.a) ∧ w.cell? ⟨g, j * 7 + 2, none⟩ = some (.int .i64 x.b) ∧ w.cell? ⟨g, j * 7 + 3, none⟩ = some (.int .i64 x.size) ∧
    w.cell? ⟨g, j * 7 + 4, none⟩ = some ul ∧ w.cell? ⟨g, j * 7 + 5, none⟩ = some ue ∧ w.cell? ⟨g, j * 7 + 6, none⟩ = some ua ∧ Nw lo hi ul ∧ Nw lo hi ue ∧ SlcI w ul x.list ∧ Slc w ue x.ent ∧ ∃ p q, ua = .slice p x.n q
/-- a list of requests -/
def As (w : World) (lo hi : Nat) (u : Value) (l : List Ask) : Prop :=
  (u = .slice none 0 0 ∧ l = []) ∨ ∃ g cap, u = .slice (some ⟨g, 0, none⟩) l.length cap ∧ lo ≤ g ∧ g < hi ∧ g < w.heap.size ∧ ∀ j x, l[j]? = some x → El w lo hi g j x
theorem El.keep {S : Nat → Prop} {w w' : World} {lo hi g j : Nat} {x : Ask} (h : El w lo hi g j x) (hb : Keep S w w') (hg : ¬ S g) (hl : g < w.heap.size) (hS : ∀ k, lo ≤ k → k < hi → ¬ S k) : El w' lo hi g j x := by
  obtain ⟨ul, ue, ua, c0, c1, c2, c3, c4, c5, c6, n1, n2, s1, s2, s3⟩ := h
  have key : ∀ o y, w.cell? ⟨g, o, none⟩ = some y → w'.cell? ⟨g, o, none⟩ = some y := fun o y e => by
    rw [World.cell?_of_block (w := w) (hb.block g hl hg)]; exact e
  exact ⟨ul, ue, ua, key _ _ c0, key _ _ c1, key _ _ c2, key _ _ c3, key _ _ c4, key _ _ c5, key _ _ c6, n1, n2, n1.slcI s1 hb hS, n2.slc s2 hb hS, s3⟩
theorem As.keep {S : Nat → Prop} {w w' : World} {lo hi : Nat} {u : Value} {l : List Ask} (h : As w lo hi u l) (hb : Keep S w w') (hS : ∀ k, lo ≤ k → k < hi → ¬ S k) : As w' lo hi u l := by
  rcases h with h | ⟨g, cap, rfl, h1, h2, h3, h4⟩
  · exact .inl h
  · exact .inr ⟨g, cap, rfl, h1, h2, Nat.lt_of_lt_of_le h3 hb.size, fun j x hx => (h4 j x hx).keep hb (hS g h1 h2) h3 hS⟩
theorem As.shape {w : World} {lo hi : Nat} {u : Value} {l : List Ask} (h : As w lo hi u l) : ∃ p q, u = .slice p l.length q := by
  rcases h with ⟨rfl, rfl⟩ | ⟨g, cap, rfl, _⟩
  · exact ⟨none, 0, rfl⟩
  · exact ⟨_, _, rfl⟩
theorem As.bl {w w' : World} {lo base : Nat} {u : Value} {l : List Ask} (h : As w lo base u l) (hb : Below base w w') : As w' lo base u l :=
  h.keep (S := fun k => base ≤ k) ⟨hb.os, hb.tape, hb.output, hb.size, fun k _ hk => hb.block k (by omega)⟩ (fun k _ h2 => by omega)
theorem Nw.lw {lo hi : Nat} {v : Value} (h : Nw lo hi v) : Lw hi v := fun x n c e _ => (h x n c e).2
/-- a request that was taken as it should -/
structure Gd (x : Ask) (lo hi : Int) : Prop where
  fit : Fit x
  wi : wi x.kind lo hi = true
  self : setFs x (flds x.kind.toNat) (Ask.of x.kind) = x
theorem no_asks {k : Int} (h : Msg.wi k 3 7 = true) : ∀ g ∈ flds k.toNat, g ≠ .asks := by
  have hk := wi_iff.1 h
  obtain ⟨n, rfl⟩ := Int.eq_ofNat_of_zero_le (show 0 ≤ k by omega)
  rw [Int.toNat_natCast]
  have h1 : 3 ≤ n := by omega
  have h2 : n ≤ 7 := by omega
  intro g hg e
  subst e
  match n, h1, h2 with
  | 3, _, _ => simp [flds] at hg
  | 4, _, _ => simp [flds] at hg
  | 5, _, _ => simp [flds] at hg
  | 6, _, _ => simp [flds] at hg
  | 7, _, _ => simp [flds] at hg
theorem lReq_yes {x : Ask} {lo hi : Int} (h : Gd x lo hi) (da : LS → LS) (s : LS) : lReq x da lo hi s = lFlds x da (flds x.kind.toNat) (lMark x.kind lo hi s) := by
  rw [lReq, if_pos h.wi, h.self, whole_self, Bool.not_true, Bool.or_false]
theorem sm_ask {x : Ask} (h : Gd x 3 7) {s : LS} {m : Nat} (hs : Sm s m) : Sm (lAsk x s) (m + 343597383680) := by
  rw [lAsk, lReq_yes h]
  have h3 := flds_len x.kind.toNat
  have hm : Sm (lMark x.kind 3 7 s) (m + 1) := hs.lif _ _ _
  have := sm_fq h.fit (K := 68719476736) (da := id) (fs := flds x.kind.toNat) (Nat.le_refl _) (fun e => absurd rfl (no_asks h.wi _ e)) (flds x.kind.toNat).length _ _ hm (Nat.le_refl _)
  rw [List.take_length] at this
  refine this.mono ?_
  have : (flds x.kind.toNat).length * 68719476736 ≤ 3 * 68719476736 := Nat.mul_le_mul_right _ h3
  omega
theorem sm_asks : ∀ (l : List Ask) {s : LS} {m : Nat}, (∀ x ∈ l, Gd x 3 7) → Sm s m → Sm (l.foldl (fun s x => lAsk x s) s) (m + l.length * 343597383680)
  | [], s, m, _, hs => by simpa using hs
  | x :: l, s, m, h, hs => by
    have := sm_asks l (s := lAsk x s) (m := m + 343597383680) (fun y hy => h y (by simp [hy])) (sm_ask (h x (by simp)) hs)
    rw [List.foldl_cons, List.length_cons]
    exact this.mono (by rw [Nat.add_mul]; omega)
theorem asks_snoc (l : List Ask) (k : Nat) (hk : k < l.length) (s : LS) : (l.take (k + 1)).foldl (fun s x => lAsk x s) s = lAsk l[k] ((l.take k).foldl (fun s x => lAsk x s) s) := by
  rw [List.take_add_one, List.getElem?_eq_getElem hk, List.foldl_append]; rfl
/-- while the asks are laid down -/
def Ll (w1 : World) (base b c : Nat) (v1 : Value) (l : List Ask) (s : LS) (k : Nat) (wr : World) : Prop := Lo w1 base b c v1 ((l.take k).foldl (fun s x => lAsk x s) s) wr
theorem Lo.below {w1 w w' : World} {base b c : Nat} {v1 : Value} {s : LS} (h : Lo w1 base b c v1 s w) (hb : Below w.heap.size w w') : Lo w1 base b c v1 s w' := by
  obtain ⟨v, h1, h2, h3⟩ := h
  exact ⟨v, h1.below hb, h2.trans (T := fun _ => False) (Keep.ofBelow hb) (fun _ _ e => e.elim), h3⟩

set_option maxRecDepth 100000 in
set_option maxHeartbeats 4000000 in
theorem layAsks_yes {w : World} {base lo0 b c : Nat} {v : Value} {s : LS} {u : Value} {l : List Ask} (h : Ly w base b c v s) (hu : As w lo0 base u l) (hl : wi (l.length : Int) 1 64 = true) (hg : ∀ x ∈ l, Gd x 3 7) (hm : Sm s 29000000000000) :
    Calls Tryz.prog 86 #[.pointer (some ⟨c, 0, none⟩), u] w fun e w' => e = .returned u ∧ Lo w base b c v (lAsks l s) w' := by
  have i1 := within_any (l.length : Int) 1 64 w
  have i2 := takes_any true w h
  rw [hl] at i1
  have hlen := wi_iff.1 hl
  rw [lAsks, if_pos hl, lNum, lif_yes rfl]
  have HA := hid hu
  rcases hu with ⟨_, rfl⟩ | ⟨g, cap, rfl, g1, g2, g3, g4⟩
  · simp at hlen
  have h9 : (digs (l.length : Int).toNat).length ≤ 9 := digs_len9 (by omega)
  have HM := hid hm
  have HG := hid hg
  have HY := hid h
  have H9 := hid h9
  have hb1 : -9223372036854775808 ≤ (l.length : Int) := by omega
  have hb2 : (l.length : Int) ≤ 9223372036854775807 := by omega
  obtain ⟨s1, hs1⟩ : ∃ s1, Hid ((s.1.put (numErr (l.length : Int)) (digs (l.length : Int).toNat), s.2) = s1) := ⟨_, rfl⟩
  rw [hs1.out]
  clear h hm hg hl g4 h9
  go_enter Tryz.func86, Tryz.ntmps86
  go_wp2_with (first
    | (go_at_call 15; refine i1.mono ?_; rintro e w' ⟨rfl, hw'⟩; rw [hw']; clear hw' w')
    | (go_at_call 31; refine i2.mono ?_; rintro e w1 ⟨rfl, h1, h2⟩; have h1 := h1.yes; have d0 := h1.c0; have i3 := wNum_any base b v s.1 (l.length : Int) hb1 hb2 w1 h1.wri h1.base (fun bs e => by have := HM.out bs e; omega); have H1 := hid h1; have H2 := hid h2; clear h1 h2)
    | (go_at_call 94; refine i3.mono ?_; intro e w2 p; obtain ⟨hr, hlo⟩ := Lo.mk' H2.out H1.out p; subst hr; rw [hs1.out] at hlo; have HL := hid hlo; clear hlo p))
  have HS : Hid (Sm s1 29000000000009) := by
    have := HM.out.lif true (numErr (l.length : Int)) (digs (l.length : Int).toNat)
    rw [lif_yes rfl, hs1.out] at this
    exact this.mono (by have := H9.out; omega)
  clear i1 i2 i3 d0
  go_loopw [21] (fun i w' => ∃ k : Nat, k ≤ l.length ∧ i = .int .i64 k ∧ Hid (Lo w base b c v ((l.take k).foldl (fun s x => lAsk x s) s1) w')) (fun i _ => l.length - (intOf i).toNat)
  case atStart => exact ⟨0, by omega, rfl, HL⟩
  case round =>
    obtain ⟨k, hk, rfl, hL⟩ := hrel
    by_cases hlt : k < l.length
    · have hlt' : (k : Int) < (l.length : Int) := by omega
      obtain ⟨v', y1, y2, y3⟩ := hL.out
      have bl : Below base w wr := Lo.bl HY.out y2
      rcases HA.out.bl bl with ⟨hz, _⟩ | ⟨g', cap', he, a1, a2, a3, a4⟩
      · cases hz
      injection he with he1 he2 he3
      injection he1 with he1
      injection he1 with he1
      subst he1
      clear he2
      have he3 := he3.symm
      subst he3
      obtain ⟨ul, ue, ua, c0, c1, c2, c3, c4, c5, c6, n1, n2, r1, r2, r3⟩ := a4 k l[k] (List.getElem?_eq_getElem hlt)
      have G := HG.out l[k] (List.getElem_mem hlt)
      have hS0 := sm_asks (l.take k) (fun x hx => HG.out x (List.mem_of_mem_take hx)) HS.out
      have hS := hS0.mono (k := 58000000000000) (by rw [List.length_take, Nat.min_eq_left hk]; omega)
      have hsn := asks_snoc l k hlt s1
      obtain ⟨p1, q1, rfl, _⟩ := id r1
      obtain ⟨p2, q2, rfl, _⟩ := id r2
      obtain ⟨p3, q3, rfl⟩ := id r3
      generalize l[k] = x at *
      have bA := (Below.refl wr.heap.size wr).alloc (Nat.le_refl _) (.cells #[.int .i64 x.kind, .int .i64 x.a, .int .i64 x.b, .int .i64 x.size, .slice p1 x.list.length q1, .slice p2 x.ent.length q2, .slice p3 x.n q3] 40)
      have i4 := reqL_yes (y1.below bA) ⟨n1.lw, n2.lw, n1.lw.slcI r1 (bA.mono y1.base), n2.lw.slc r2 (bA.mono y1.base), ⟨p3, q3, rfl⟩⟩ G.fit hS (Nat.le_refl _) (K0 := 68719476736) (Nat.le_refl _) (M := 140600000000000) (by have := flds_len x.kind.toNat; have : ((flds x.kind.toNat).length - 1) * 68719476736 ≤ 2 * 68719476736 := Nat.mul_le_mul_right _ (by omega); omega) 3 7 G.wi (by omega) (by omega) id (fun d g hg => fc_six (Nat.le_refl _) G.fit g (no_asks G.wi g hg)) (fun e => absurd rfl (no_asks G.wi _ e)) G.self
      rw [akV] at i4
      have N : Hid (∀ w5, Lo (wr.alloc (.cells #[.int .i64 x.kind, .int .i64 x.a, .int .i64 x.b, .int .i64 x.size, .slice p1 x.list.length q1, .slice p2 x.ent.length q2, .slice p3 x.n q3] 40)) base b c v' (lReq x id 3 7 ((l.take k).foldl (fun s x => lAsk x s) s1)) w5 → Lo w base b c v ((l.take (k + 1)).foldl (fun s x => lAsk x s) s1) w5) := fun w5 p => by
        rw [hsn]
        exact Lo.step (y2.trans (T := fun _ => False) (Keep.ofBelow bA) (fun _ _ e => e.elim)) y3 p
      clear y1 y2 y3 bl a4 r1 r2 hS hS0 hsn bA G
      go_wp2_with (go_at_call 24; refine i4.mono ?_; rintro e w5 ⟨rfl, p⟩; have N1 := hid (N.out _ p); clear p)
      exact ⟨⟨k + 1, by omega, by go_num, N1⟩, by simp [intOf]; omega⟩
    · obtain rfl : k = l.length := by omega
      have hL2 := hL.out
      rw [List.take_length] at hL2
      have HL2 := hid hL2
      clear hL2
      go_wp2
      go_ret
      exact ⟨rfl, HL2.out⟩
end Msg
end Go.Proofs.YteilkpihddfpeaaGreatDoor
