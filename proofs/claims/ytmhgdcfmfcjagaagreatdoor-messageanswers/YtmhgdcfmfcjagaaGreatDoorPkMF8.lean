import Derived.Test.YtmhgdcfmfcjagaaGreatDoorPkMF4c
import Derived.Test.YtmhgdcfmfcjagaaGreatDoorPkYW2
import Derived.Test.YtmhgdcfmfcjagaaGreatDoorPkMN1
import Derived.Test.YtmhgdcfmfcjagaaGreatDoorPkMW10
import Derived.Test.YtmhgdcfmfcjagaaGreatDoorPkG4N
import Derived.Test.YtmhgdcfmfcjagaaGreatDoorPkP1
import Derived.Test.YtmhgdcfmfcjagaaGreatDoorPkMV8
import Derived.Test.YtmhgdcfmfcjagaaGreatDoorPkMU4
namespace Go.Proofs.YtmhgdcfmfcjagaaGreatDoor
open Go.RowKit Cod
namespace Msg
theorem no_parts {K : Nat} (h1 : K ≤ 12) (h12 : K ≠ 12) : ∀ g ∈ rflds K, g ≠ .parts := fun g hg e => by
  subst e
  exact h12 (parts12 h1 hg)
theorem docF_iff {K : Nat} (hK : K ≤ 12) {x : Part} {l : List Part} (ho : Only K x) (hE : ∀ y ∈ l, mrB y (pw y) = false) : docF K x l = true ↔ ∃ out, lReply (K : Int) x l (.ok [], false) = (.ok out, false) := by
  rw [lReply, mark_eq (show wi (K : Int) (K : Int) (K : Int) = true from decide_eq_true (by omega)) (by omega) (by omega), docF, Bool.and_eq_true, Int.toNat_natCast]
  have hl : 0 ≤ leastOf (K : Int) ∧ leastOf (K : Int) ≤ 1 ∧ (K ≠ 0 → leastOf (K : Int) = 0) := by
    unfold leastOf
    split
    · exact ⟨by omega, by omega, fun h => by omega⟩
    · exact ⟨by omega, by omega, fun h => rfl⟩
  constructor
  · rintro ⟨h1, h2⟩
    have hs := wi_iff.1 h1
    by_cases h0 : x.status = 0
    · rw [if_pos h0] at h2
      have hm := ho.dn h0
      by_cases hz : K = 0
      · rw [if_pos hz] at h2; cases h2
      · rw [if_neg hz] at h2
        have key : (∃ out, lFrs x (lParts l) (rflds K) (.ok ([] ++ [UInt8.ofNat K] ++ [0]), false) = (.ok out, false)) ∧ (K = 10 → wi x.b 0 1 = true) := by
          by_cases h12 : K = 12
          · rw [if_pos h12] at h2
            subst h12
            exact ⟨(parts_iff l hE _).2 h2, fun e => by omega⟩
          · rw [if_neg h12, fn_iff (by omega) hz hm] at h2
            refine ⟨(frs_iff x (lParts l) (abs_lParts l) (rflds K) (no_parts hK h12) _).2 h2, fun e => ?_⟩
            subst e
            exact h2 .over (by simp [rflds])
        refine (tail_iff hl.1 (fun _ => whole_K hK h0 hm key.2 hz) (fun e => absurd h0 e)).2 ⟨?_, fun _ => key.1⟩
        rw [hl.2.2 hz]; exact h1
    · refine (tail_iff hl.1 (fun e => absurd e h0) (fun _ => zeros (ho.nd h0))).2 ⟨decide_eq_true ⟨by omega, hs.2⟩, fun e => absurd e h0⟩
  · rintro ⟨out, h⟩
    obtain ⟨h1, h2⟩ := tail_ok hl.1 h
    have hs := wi_iff.1 h1
    refine ⟨decide_eq_true ⟨by omega, hs.2⟩, ?_⟩
    rcases h2 with ⟨a, b, _⟩ | ⟨a, _, _⟩
    · rw [if_pos a]
      have hm := ho.dn a
      have hz : K ≠ 0 := fun e => by
        subst e
        rw [a, leastOf] at hs
        simp at hs
      rw [if_neg hz]
      by_cases h12 : K = 12
      · rw [if_pos h12]
        subst h12
        exact (parts_iff l hE _).1 ⟨out, b⟩
      · rw [if_neg h12, fn_iff (by omega) hz hm]
        exact (frs_iff x (lParts l) (abs_lParts l) (rflds K) (no_parts hK h12) _).1 ⟨out, b⟩
    · rw [if_neg a]
theorem sm_lParts (l : List Part) (hf : ∀ y ∈ l, PFit y) {s : LS} {m : Nat} (hs : Sm s m) : Sm (lParts l s) (m + 21990232555700) := by
  rw [lParts]
  split
  · rename_i hw
    have hw2 := wi_iff.1 hw
    have h1 : Sm (lNum (l.length : Int) s) (m + (digs ((l.length : Int)).toNat).length) := hs.lif _ _ _
    have h9 : (digs ((l.length : Int)).toNat).length ≤ 9 := digs_len9 (by rw [Int.toNat_natCast]; omega)
    have h2 := sm_partsA l hf h1
    refine h2.mono ?_
    have : l.length * 343597383680 ≤ 64 * 343597383680 := Nat.mul_le_mul_right _ (by omega)
    omega
  · exact fun bs e => Nat.le_trans (hs bs e) (by omega)
theorem repl_len {K : Nat} {x : Part} {l : List Part} (hf : PFit x) (hl : ∀ y ∈ l, PFit y) {p : List UInt8} (hK : K ≤ 12) (h : lReply (K : Int) x l (.ok [], false) = (.ok p, false)) : p.length ≤ 1000000000000000 := by
  rw [lReply, mark_eq (show wi (K : Int) (K : Int) (K : Int) = true from decide_eq_true (by omega)) (by omega) (by omega), Int.toNat_natCast] at h
  obtain ⟨_, h2⟩ := tail_ok (by unfold leastOf; split <;> omega) h
  rcases h2 with ⟨_, b, _⟩ | ⟨_, b, _⟩
  · have s0 : Sm ((.ok ([] ++ [UInt8.ofNat K] ++ [0]), false) : LS) 2 := fun bs e => by
      injection e with e
      rw [← e]
      simp
    have := sm_fr hf (K := 21990232555700) (da := lParts l) (fs := rflds K) (by omega) (fun _ s m hs => sm_lParts l hl hs) (rflds K).length _ _ s0 (Nat.le_refl _)
    rw [List.take_length, b] at this
    have h3 := this p rfl
    have h4 := Nat.mul_le_mul_right 21990232555700 (rflds_len K)
    omega
  · rw [b]; simp
def encP (K : Nat) (x : Part) (l : List Part) : Value := frO (lReply (K : Int) x l (.ok [], false))
structure Rq1 (w : World) (K : Nat) (x : Part) (l : List Part) (uh ue up : Value) : Prop where
  ak : Ap w w.heap.size x uh ue up
  ft : PFit x
  ls : Pq w w.heap.size up l
  ln : x.n = l.length
  lf : ∀ y ∈ l, PFit y ∧ mrB y (pw y) = false
  on : Only K x
theorem Rq1.bl {w w' : World} {K : Nat} {x : Part} {l : List Part} {uh ue up : Value} (h : Rq1 w K x l uh ue up) (hb : Below w.heap.size w w') : Rq1 w' K x l uh ue up :=
  ⟨⟨h.ak.l1.mono hb.size, h.ak.l2.mono hb.size, h.ak.l1.slc h.ak.s1 hb, h.ak.l2.slc h.ak.s2 hb, h.ak.s3⟩, h.ft, (h.ls.bl hb).mono hb.size, h.ln, h.lf, h.on⟩
set_option maxRecDepth 100000 in
set_option maxHeartbeats 8000000 in
theorem rencodeR17_any {w : World} {K : Nat} {x : Part} {l : List Part} {uh ue up : Value} (hK : K ≤ 12) (h : Rq1 w K x l uh ue up) :
    Calls Tryz.prog 16 #[.int .i64 (K : Int), rpV x uh ue up] w fun e w' => e = .returned (encP K x l) ∧ Below w.heap.size w w' := by
  obtain ⟨p1, q1, rfl, _⟩ := id h.ak.s1
  obtain ⟨p2, q2, rfl, _⟩ := id h.ak.s2
  obtain ⟨p3, q3, rfl⟩ := id h.ak.s3
  have bA := (Below.refl w.heap.size w).alloc (Nat.le_refl _) (.cells #[.int .i64 x.status, .int .i64 x.size, .int .i64 x.a, .int .i64 x.b, sv x.root, .slice p1 x.hs.length q1, .slice p2 x.ent.length q2, .slice p3 x.n q3] 45)
  have rA := heap_alloc_new w (.cells #[.int .i64 x.status, .int .i64 x.size, .int .i64 x.a, .int .i64 x.b, sv x.root, .slice p1 x.hs.length q1, .slice p2 x.ent.length q2, .slice p3 x.n q3] 45)
  have zA := size_alloc w (.cells #[.int .i64 x.status, .int .i64 x.size, .int .i64 x.a, .int .i64 x.b, sv x.root, .slice p1 x.hs.length q1, .slice p2 x.ent.length q2, .slice p3 x.n q3] 45)
  have hA := h.bl bA
  have i1 := fine17_any hK x l hA.on hA.ft hA.ln (fun y hy => ⟨(hA.lf y hy).1.hl, (hA.lf y hy).2⟩) p1 p2 p3 q1 q2 q3 _ hA.ak.s1 hA.ak.s2 hA.ls
  have H := hid h
  rw [rpV] at i1 ⊢
  obtain ⟨P, hP⟩ := pstr x.root
  rw [hP.out.1] at bA rA zA i1 ⊢
  have i0 := fun w => told17_any (K : Int) w
  obtain ⟨WD, hWD⟩ := pstr (tw (K : Int))
  rw [hWD.out.1] at i0
  have ne : WD.toList.isEmpty = false := by
    rw [hWD.out.2.1, decide_eq_false]
    exact fun e => tw_nil.1 e (decide_eq_true ⟨by omega, by omega⟩)
  have BA := hid bA
  have RA := hid rA
  rw [encP]
  cases hd : docF K x l with
  | false =>
    have hno : ¬ ((lReply (K : Int) x l (.ok [], false)).1.err = 0 ∧ (lReply (K : Int) x l (.ok [], false)).2 = false) := fun e => by
      obtain ⟨p, hp⟩ := ws_some (nz_reply K x l _ nz_nil) e
      rw [(docF_iff hK H.out.on (fun y hy => (H.out.lf y hy).2)).2 ⟨p, hp⟩] at hd
      cases hd
    rw [frO, if_neg hno]
    rw [hd] at i1
    clear h bA rA hno hd hA zA
    go_enter Tryz.func16, Tryz.ntmps16
    go_wp2_with (first
      | (go_at_call 42; refine (i0 _).mono ?_; rintro e w' ⟨rfl, hw'⟩; rw [hw']; clear hw' w')
      | (go_at_call 43; refine i1.mono ?_; rintro e w1 ⟨rfl, g1⟩; have B1 := hid (BA.out.trans (g1.mono BA.out.size)); clear g1))
    go_ret2
    exact ⟨rfl, B1.out⟩
  | true =>
    obtain ⟨p, hp⟩ := (docF_iff hK H.out.on (fun y hy => (H.out.lf y hy).2)).1 hd
    have hpl := repl_len H.out.ft (fun y hy => (H.out.lf y hy).1) hK hp
    rw [hp, frO, if_pos ⟨rfl, rfl⟩, show (WSt.ok p).text = p from rfl]
    obtain ⟨RV, hRV⟩ : ∃ R, Hid ((if 1048576 < p.length then Value.tuple #[sv [], .int .i64 174] else .tuple #[sv (wrText p), .int .i64 0]) = R) := ⟨_, rfl⟩
    rw [hRV.out]
    rw [hd] at i1
    have HPQ := hid hp
    clear h bA rA hd hp hA
    go_enter Tryz.func16, Tryz.ntmps16
    go_wp2_with (first
      | (go_at_call 42; refine (i0 _).mono ?_; rintro e w' ⟨rfl, hw'⟩; rw [hw']; clear hw' w')
      | (go_at_call 43; fail))
    go_at_call 43
    refine i1.mono ?_
    rintro e w1 ⟨rfl, g1⟩
    have b1 := BA.out.trans (g1.mono BA.out.size)
    have R1 := (g1.block w.heap.size (by omega)).trans RA.out
    have z1 : w.heap.size < w1.heap.size := by have := g1.size; omega
    have i2 := rnewWriter_any w1
    have B1 := hid b1
    have RR1 := hid R1
    clear g1 b1 R1 i1
    go_wp2_with (go_at_call 34; fail)
    go_at_call 34
    refine i2.mono ?_
    rintro e w2 ⟨rfl, n1, n2, _⟩
    have b2 := B1.out.trans (n2.mono B1.out.size)
    have R2 := (n2.block _ z1).trans RR1.out
    obtain ⟨c0, c1, c2, c3, c4, c5, c6, c7⟩ := rp_cells R2
    have hb := H.out.bl B1.out
    have hAk : Ap w2 w1.heap.size x (.slice p1 x.hs.length q1) (.slice p2 x.ent.length q2) (.slice p3 x.n q3) := ⟨hb.ak.l1, hb.ak.l2, hb.ak.l1.slc hb.ak.s1 n2, hb.ak.l2.slc hb.ak.s2 n2, hb.ak.s3⟩
    have i3 := layReply17_any n1 (Nat.le_refl _) hAk hb.ft (hb.ls.bl n2) hb.ln hK HPQ.out hpl
    rw [rpV, hP.out.1] at i3
    have B2 := hid b2
    have z2 : w1.heap.size ≤ w2.heap.size := n2.size
    clear n1 n2 b2 R2 hb hAk i2
    go_wp2_with (go_at_call 44; fail)
    go_at_call 44
    refine i3.mono ?_
    rintro e w3 ⟨rfl, l1, l2⟩
    have b3 : Below w.heap.size w w3 := B2.out.trans (l2.below (by omega) (fun k hk e => by omega))
    have i4 := xwDone_any w1.heap.size p 0 w3 l1
    rw [if_pos rfl, show sv p = .string ⟨p.toArray⟩ from rfl] at i4
    have i5 := fun w => rframe_any ⟨p.toArray⟩ w
    simp only [sv_size] at i5
    have B3 := hid b3
    clear l1 l2 b3 i3 c0 c1 c2 c3 c4 c5 c6 c7
    by_cases hlong : 1048576 < p.length
    · simp only [if_pos hlong] at i5
      go_wp2_with (first
        | (go_at_call 36; refine i4.mono ?_; rintro e w4 ⟨rfl, g4⟩; have B4 := hid (B3.out.trans (g4.mono B3.out.size)); clear g4)
        | (go_at_call 37; refine (i5 _).mono ?_; rintro e w5 ⟨rfl, g5⟩; have B5 := hid (B4.out.trans (g5.mono B4.out.size)); clear g5))
      go_ret2
      exact ⟨by rw [← hRV.out, if_pos hlong]; rfl, B5.out⟩
    · simp only [if_neg hlong] at i5
      go_wp2_with (first
        | (go_at_call 36; refine i4.mono ?_; rintro e w4 ⟨rfl, g4⟩; have B4 := hid (B3.out.trans (g4.mono B3.out.size)); clear g4)
        | (go_at_call 37; refine (i5 _).mono ?_; rintro e w5 ⟨rfl, g5⟩; have B5 := hid (B4.out.trans (g5.mono B4.out.size)); clear g5))
      go_ret2
      exact ⟨by rw [← hRV.out, if_neg hlong]; rfl, B5.out⟩
end Msg
end Go.Proofs.YtmhgdcfmfcjagaaGreatDoor

namespace Go.Proofs.YtmhgdcfmfcjagaaGreatDoor
open Go.RowKit Cod
namespace Msg
theorem val_or {α : Type} (st : RS) (d : α) (x : Rd α) : st.val d x = d ∨ ∃ v r, x = .good v r ∧ st.val d x = v := by
  by_cases he : st.err = 0
  · cases x with
    | bad e => exact .inl (by rw [RS.val, if_pos he])
    | good v r => exact .inr ⟨v, r, rfl, by rw [RS.val, if_pos he]⟩
  · exact .inl (val_bad he)
theorem sz_top (s : TS) : (tSize s).1 ≤ 4611686018427387904 := by
  rcases val_or s.1 0 (rdNum s.1.rest) with h | ⟨v, r, h, e⟩
  · show s.1.val 0 (rdNum s.1.rest) ≤ _
    rw [h]; omega
  · show s.1.val 0 (rdNum s.1.rest) ≤ _
    have := (num_back h).2
    rw [top] at this
    rw [e]; exact this
def LFit (l : List Int) : Prop := (∀ c ∈ l, -9223372036854775808 ≤ c ∧ c ≤ 9223372036854775807) ∧ l.length ≤ maxLen ∧ (wrRising (l.map Int.toNat)).length ≤ 68719476736
def EFit (l : List (List UInt8)) : Prop := l.length ≤ maxLen ∧ (wrTexts l).length ≤ 68719476736
def HFit (l : List (List UInt8)) : Prop := l.length ≤ maxLen ∧ (wrHashes l).length ≤ 68719476736
theorem digs0 : (digs 0).length = 1 := by rw [digs_small (by omega)]; rfl
theorem LFit.nil : LFit [] := ⟨fun c hc => (by cases hc), by simp, by show (digs 0 ++ []).length ≤ _; rw [List.append_nil, digs0]; omega⟩
theorem EFit.nil : EFit [] := ⟨by simp, by show (digs 0 ++ []).length ≤ _; rw [List.append_nil, digs0]; omega⟩
theorem HFit.nil : HFit [] := ⟨by simp, by show (digs 0 ++ []).length ≤ _; rw [List.append_nil, digs0]; omega⟩
def Nt (n : Int) : Prop := 0 ≤ n ∧ n ≤ 4611686018427387904
theorem nt0 : Nt 0 := ⟨by omega, by omega⟩
theorem fit_of {x : Ask} (h1 : Nt x.kind) (h2 : Nt x.a) (h3 : Nt x.b) (h4 : Nt x.size) (hl : LFit x.list) (he : EFit x.ent) : Fit x :=
  ⟨⟨by have := h1.1; omega, by have := h1.2; omega⟩, ⟨by have := h2.1; omega, by have := h2.2; omega⟩, ⟨by have := h3.1; omega, by have := h3.2; omega⟩, ⟨by have := h4.1; omega, by have := h4.2; omega⟩, hl.1, hl.2.1, he.1⟩
theorem pfit_of {x : Part} (h2 : Nt x.size) (h3 : Nt x.a) (hh : HFit x.hs) (he : EFit x.ent) : PFit x :=
  ⟨⟨by have := h2.1; omega, by have := h2.2; omega⟩, ⟨by have := h3.1; omega, by have := h3.2; omega⟩, hh.1, he.1⟩
end Msg
end Go.Proofs.YtmhgdcfmfcjagaaGreatDoor

namespace Go.Proofs.YtmhgdcfmfcjagaaGreatDoor
open Go.RowKit Cod
namespace Msg
set_option maxRecDepth 100000 in
set_option maxHeartbeats 4000000 in
theorem decodeR_kind (k : Int) (hw : wi k 0 12 = false) (s : ByteArray) (w : World) :
    Calls Tryz.prog 24 #[.int .i64 k, .string s] w fun e w' => e = .returned (.tuple #[rp0, sv [], .int .i64 170]) ∧ Below w.heap.size w w' := by
  have r0 := hid (heap_alloc_new w (.cells #[.int .i64 0, .int .i64 0, .int .i64 0, .int .i64 0, .string ⟨#[]⟩, .slice none 0 0, .slice none 0 0, .slice none 0 0] 45))
  have b0 := hid ((Below.refl w.heap.size w).alloc (Nat.le_refl _) (.cells #[.int .i64 0, .int .i64 0, .int .i64 0, .int .i64 0, .string ⟨#[]⟩, .slice none 0 0, .slice none 0 0, .slice none 0 0] 45))
  go_enter Tryz.func24, Tryz.ntmps24
  go_wp2_with (first
    | (go_at_call 28; refine (within_any _ _ _ _).mono ?_; rw [hw]; rintro e w' ⟨rfl, hw'⟩; rw [hw']; clear hw' w')
    | ((with_reducible show wpList _ _ _ (Oper.mk _ (Op.store 45 _ _) _ _ _ _ :: _) _ _); go_must (refine wpList_store_row rfl 45 _ _ rfl w.heap.size _ rfl rfl 45 _ r0.out (sizeRp' _ _ _ _ _ _ _ _) rfl (oneRp _ _ _ _ _ _ _ _ _ _ _ _ _ _) ?_)))
  refine bodyPost_ret (results_row_tmp2 rfl _ _ w.heap.size 45 _ (0, 0) _ rfl (setRow_heap _ _ _ _ _ _ r0.out) Tryz.underlying45 rfl sizeRp) rfl ?_
  exact ⟨rfl, Below.setRow b0.out (Nat.le_refl _) _⟩
def kx : Ask := ⟨4, 3, 0, 300, [], [], 0⟩
theorem d300 : digs 300 = [172, 2] := by rw [digs_great (by omega), digs_small (by omega)]; rfl
theorem k_lay : lRequest kx [] (.ok [], false) = (.ok [4, 3, 172, 2], false) := by
  show lReq kx (lAsks []) 1 12 _ = _
  rw [lReq, if_pos (by decide)]
  show ((lSize 300 (lSize 3 (lMark 4 1 12 (.ok [], false)))).1, (lSize 300 (lSize 3 (lMark 4 1 12 (.ok [], false)))).2 || !whole kx kx) = _
  rw [whole_self, Bool.not_true, Bool.or_false, lMark, lif_yes (by decide), lSize, lif_yes (by decide), lSize, lif_yes (by decide)]
  rw [show (3 : Int).toNat = 3 from rfl, show (300 : Int).toNat = 300 from rfl, d300, digs_small (n := 3) (by omega)]
  rfl
theorem k_wr : wrText [4, 3, 172, 2] = [4, 4, 3, 172, 2] := by
  rw [wrText, show ([4, 3, 172, 2] : List UInt8).length = 4 from rfl, digs_small (by omega)]; rfl
theorem k_rd : rdText [4, 4, 3, 172, 2, 120] 1048576 = .good [4, 3, 172, 2] [120] := by
  have := text_there (t := [4, 3, 172, 2]) (most := 1048576) (by decide) (by decide) [120]
  rw [k_wr] at this
  exact this
theorem k_tk : (tRequest (⟨[4, 3, 172, 2], 0, 0⟩, false)).1.1 = kx ∧ (decide ((tRequest (⟨[4, 3, 172, 2], 0, 0⟩, false)).2.1.done = 0) && !(tRequest (⟨[4, 3, 172, 2], 0, 0⟩, false)).2.2) = true := by
  constructor <;> rfl
theorem k_rq (w : World) : Rq w kx [] (.slice none 0 0) (.slice none 0 0) (.slice none 0 0) :=
  ⟨⟨fun y n c e => (by cases e), fun y n c e => (by cases e), nilI _, nilT _, ⟨none, 0, rfl⟩⟩, ⟨fit_of ⟨by decide, by decide⟩ ⟨by decide, by decide⟩ nt0 ⟨by decide, by decide⟩ LFit.nil EFit.nil, by decide, rfl⟩, fun h => absurd h (by decide)⟩
def kp : Part := ⟨2, 0, 0, 0, [], [], [], 0⟩
theorem p_lay : lReply ((2 : Nat) : Int) kp [] (.ok [], false) = (.ok [2, 2], false) := by rfl
theorem p_wr : wrText [2, 2] = [2, 2, 2] := by
  rw [wrText, show ([2, 2] : List UInt8).length = 2 from rfl, digs_small (by omega)]; rfl
theorem p_rd : rdText [2, 2, 2] 1048576 = .good [2, 2] [] := by
  have := text_there (t := [2, 2]) (most := 1048576) (by decide) (by decide) []
  rw [p_wr] at this
  exact this
theorem p_tk : (tReply 2 (⟨[2, 2], 0, 0⟩, false)).1.1 = kp ∧ (decide ((tReply 2 (⟨[2, 2], 0, 0⟩, false)).2.1.done = 0) && !(tReply 2 (⟨[2, 2], 0, 0⟩, false)).2.2) = true := by
  constructor <;> rfl
theorem p_rr (w : World) : Rr w 2 kp [] (.slice none 0 0) (.slice none 0 0) (.slice none 0 0) :=
  ⟨⟨fun y n c e => (by cases e), fun y n c e => (by cases e), nilT _, nilT _, ⟨none, 0, rfl⟩⟩, ⟨pfit_of nt0 nt0 HFit.nil EFit.nil, by decide, fun h => absurd h (by decide), fun _ => rfl⟩, fun h => absurd h (by decide)⟩
end Msg
end Go.Proofs.YtmhgdcfmfcjagaaGreatDoor

namespace Go.Proofs.YtmhgdcfmfcjagaaGreatDoor
open Go.RowKit Cod
namespace Msg
set_option maxRecDepth 100000 in
set_option maxHeartbeats 4000000 in
theorem known17_any (w : World) (T : Lay w) : Calls Tryz.prog 7 #[] w fun e w' => e = .returned (.bool true) ∧ Below w.heap.size w w' := by
  have hT := T.lt
  have i1 := encode_yes T (k_rq w) k_lay (by decide)
  rw [k_wr, akV] at i1
  simp only [kx, sv] at i1
  have ha : ∀ w, (binOp .add 9 (.string ⟨#[4, 4, 3, 172, 2]⟩) (.string ⟨#[120]⟩)).run Tryz.prog w = .ok (.string ⟨#[4, 4, 3, 172, 2, 120]⟩) w := fun w => add_sv Tryz.prog 9 [4, 4, 3, 172, 2] [120] (by decide) w
  have HT := hid T
  clear T
  go_enter Tryz.func7, Tryz.ntmps7
  go_wp2_with (first
    | (go_at_call 9; refine i1.mono ?_; rintro e w1 ⟨rfl, h1⟩; have B1 := hid h1; clear h1)
    | (go_at_call 20; fail))
  go_at_call 20
  have T1 : Lay w1 := HT.out.below B1.out hT
  refine (decode_any ⟨#[4, 4, 3, 172, 2, 120]⟩ w1 T1 (by decide)).mono ?_
  rintro e w2 ⟨b2, hD⟩
  have hD : DOk (tRequest (⟨[4, 3, 172, 2], 0, 0⟩, false)) [120] w1 e w2 := by
    have hD' : (match rdText [4, 4, 3, 172, 2, 120] 1048576 with
      | .bad k => e = .returned (.tuple #[rq0, sv [], .int .i64 (unfr k)])
      | .good p r => DOk (tRequest (⟨p, 0, 0⟩, false)) r w1 e w2) := hD
    rw [k_rd] at hD'
    exact hD'
  unfold DOk at hD
  rw [if_pos k_tk.2, k_tk.1] at hD
  obtain ⟨ul, ue, ua, rfl, g1, g2, g3, g4, g5, g6⟩ := hD
  obtain ⟨p1, n1, e1, _⟩ := id g1
  obtain ⟨p2, n2, e2, _⟩ := id g3
  obtain ⟨p3, n3, e3⟩ := g5.shape
  subst e1 e2 e3
  rw [akV]
  have B2 : Hid (Below w.heap.size w w2) := B1.out.trans (b2.mono B1.out.size)
  simp only [kx, sv, List.length_nil] at *
  generalize (tRequest (⟨[4, 3, 172, 2], 0, 0⟩, false)).1.2.length = n9 at *
  clear g1 g2 g3 g4 g5 g6 i1 T1 b2
  have b2a := (Below.refl w2.heap.size w2).alloc (Nat.le_refl _) (.cells #[.int .i64 4, .int .i64 3, .int .i64 0, .int .i64 300, .slice p1 0 n1, .slice p2 0 n2, .slice p3 n9 n3] 26)
  have r2a := heap_alloc_new w2 (.cells #[.int .i64 4, .int .i64 3, .int .i64 0, .int .i64 300, .slice p1 0 n1, .slice p2 0 n2, .slice p3 n9 n3] 26)
  have z2a := size_alloc w2 (.cells #[.int .i64 4, .int .i64 3, .int .i64 0, .int .i64 300, .slice p1 0 n1, .slice p2 0 n2, .slice p3 n9 n3] 26)
  have B2a : Hid (Below w.heap.size w (w2.alloc (.cells #[.int .i64 4, .int .i64 3, .int .i64 0, .int .i64 300, .slice p1 0 n1, .slice p2 0 n2, .slice p3 n9 n3] 26))) := B2.out.trans (b2a.mono B2.out.size)
  have i3 := encodeReply_yes (K := 2) (HT.out.below B2a.out hT) (by omega) (p_rr _) p_lay (by decide)
  rw [p_wr, rpV] at i3
  simp only [kp, sv] at i3
  have R2a := hid r2a
  have Z2a := hid z2a
  clear b2a r2a z2a
  have i3 : Calls Tryz.prog 15 #[.int .i64 2, .agg #[.int .i64 2, .int .i64 0, .int .i64 0, .int .i64 0, .string ⟨#[]⟩, .slice none 0 0, .slice none 0 0, .slice none 0 0]] (w2.alloc (.cells #[.int .i64 4, .int .i64 3, .int .i64 0, .int .i64 300, .slice p1 0 n1, .slice p2 0 n2, .slice p3 n9 n3] 26)) fun e w' => e = .returned (.tuple #[.string ⟨#[2, 2, 2]⟩, .int .i64 0]) ∧ Below (w2.alloc (.cells #[.int .i64 4, .int .i64 3, .int .i64 0, .int .i64 300, .slice p1 0 n1, .slice p2 0 n2, .slice p3 n9 n3] 26)).heap.size (w2.alloc (.cells #[.int .i64 4, .int .i64 3, .int .i64 0, .int .i64 300, .slice p1 0 n1, .slice p2 0 n2, .slice p3 n9 n3] 26)) w' := i3
  go_wp2_with (first
    | (go_at_call 15; refine i3.mono ?_; rintro e w3 ⟨rfl, h3⟩; have R3 := hid ((h3.block _ (by have := Z2a.out; omega)).trans R2a.out); have B3 := hid (B2a.out.trans (h3.mono B2a.out.size)); have Z3 := hid (Nat.le_trans (Nat.le_of_eq Z2a.out.symm) h3.size); clear h3)
    | (go_at_call 24; fail))
  go_at_call 24
  have T3 : Lay w3 := HT.out.below B3.out hT
  have i4 : Calls Tryz.prog 24 #[.int .i64 2, .string ⟨#[2, 2, 2]⟩] w3 (DPostR 2 [2, 2, 2] w3) := decodeR_any 2 (by omega) ⟨#[2, 2, 2]⟩ w3 T3 (by decide)
  refine i4.mono ?_
  rintro e w4 ⟨b4, hD⟩
  have hD : DOkR (tReply 2 (⟨[2, 2], 0, 0⟩, false)) [] w3 e w4 := by
    rw [p_rd] at hD
    exact hD
  unfold DOkR at hD
  rw [if_pos p_tk.2, p_tk.1] at hD
  obtain ⟨uh, ue', up, rfl, g1, g2, g3, g4, g5, g6⟩ := hD
  obtain ⟨p4, n4, e1, _⟩ := id g1
  obtain ⟨p5, n5, e2, _⟩ := id g3
  obtain ⟨p6, n6, e3⟩ := g5.shape
  subst e1 e2 e3
  rw [rpV]
  have B4 : Hid (Below w.heap.size w w4) := B3.out.trans (b4.mono B3.out.size)
  have r4 := (b4.block w2.heap.size (by have := Z3.out; omega)).trans R3.out
  have hlt4 : w2.heap.size < w4.heap.size := by have := Z3.out; have := b4.size; omega
  have hne4 : ¬ w2.heap.size = w4.heap.size := by omega
  have y0 : w4.cell? ⟨w2.heap.size, 0, none⟩ = some (.int .i64 4) := by rw [cell_of_row _ _ _ _ _ _ r4]; rfl
  have y1 : w4.cell? ⟨w2.heap.size, 1, none⟩ = some (.int .i64 3) := by rw [cell_of_row _ _ _ _ _ _ r4]; rfl
  have y3 : w4.cell? ⟨w2.heap.size, 3, none⟩ = some (.int .i64 300) := by rw [cell_of_row _ _ _ _ _ _ r4]; rfl
  simp only [kp, sv, List.length_nil] at *
  generalize (tReply 2 (⟨[2, 2], 0, 0⟩, false)).1.2.length = n8 at *
  clear g1 g2 g3 g4 g5 g6 i3 i4 T3 b4 r4
  have B5 := hid (B4.out.trans (((Below.refl w4.heap.size w4).alloc (Nat.le_refl _) (.cells #[.int .i64 2, .int .i64 0, .int .i64 0, .int .i64 0, .string ⟨#[]⟩, .slice p4 0 n4, .slice p5 0 n5, .slice p6 n8 n6] 45)).mono B4.out.size))
  go_wp2
  go_ret
  exact ⟨rfl, B5.out⟩
end Msg
end Go.Proofs.YtmhgdcfmfcjagaaGreatDoor
