import Derived.Test.YtmhgdcfmfcjagaaGreatDoorPkMU6
import Derived.Test.YtmhgdcfmfcjagaaGreatDoorPkME16
import Derived.Test.YtmhgdcfmfcjagaaGreatDoorPkMW12
import Derived.Test.YtmhgdcfmfcjagaaGreatDoorPkME6
namespace Go.Proofs.YtmhgdcfmfcjagaaGreatDoor
open Go.RowKit Cod
namespace Msg

set_option maxRecDepth 100000 in
set_option maxHeartbeats 4000000 in
/-- DecodeReply of no kind -/
theorem decodeR_kind (k : Int) (hw : wi k 0 12 = false) (s : ByteArray) (w : World) :
    Calls Tryz.prog 24 #[.int .i64 k, .string s] w fun e w' => e = .returned (.tuple #[rp0, sv [], .int .i64 170]) ∧ Below w.heap.size w w' := by
  have r0 := hid (heap_alloc_new w (.cells #[.int .i64 0, .int .i64 0, .int .i64 0, .int .i64 0, .string ⟨#[]⟩, .slice none 0 0, .slice none 0 0, .slice none 0 0] 45))
  have b0 := hid ((Below.refl w.heap.size w).alloc (Nat.le_refl _) (.cells #[.int .i64 0, .int .i64 0, .int .i64 0, .int .i64 0, .string ⟨#[]⟩, .slice none 0 0, .slice none 0 0, .slice none 0 0] 45))
  go_enter Tryz.func24, Tryz.ntmps24
  go_wp2_with (first
    | (go_at_call 28; refine (within_any _ _ _ _).mono ?_; rw [hw]; rintro e w' ⟨rfl, hw'⟩; rw [hw']; clear hw' w')
    | ((with_reducible show wpList _ _ _ (Oper.mk _ (Op.store 45 _ _) _ _ _ _ :: _) _ _); go_must (refine wpList_store_row rfl 45 _ _ rfl w.heap.size _ rfl rfl 45 _ r0.out (sizeRp' _ _ _ _ _ _ _ _) rfl (oneRp _ _ _ _ _ _ _ _ _ _ _ _ _ _) ?_)))
  refine bodyPost_ret (results_row_tmp2 rfl _ _ w.heap.size 45 _ (0, 0) _ rfl (setRow_heap _ _ _ _ _ _ r0.out) Tryz.underlying45 rfl sizeRp) rfl ?_
  exact ⟨rfl, Below.setRow b0.out (Nat.le_refl _) _⟩
def kx : Ask := ⟨4, 3, 0, 300, [], [], 0⟩
theorem d300 : digs 300 = [172, 2] := by rw [digs_great (by omega), digs_small (by omega)]; rfl
theorem k_lay : lRequest kx [] (.ok [], false) = (.ok [4, 3, 172, 2], false) := by
  show lReq kx (lAsks []) 1 12 _ = _
  rw [lReq, if_pos (by decide)]
  show ((lSize 300 (lSize 3 (lMark 4 1 12 (.ok [], false)))).1, (lSize 300 (lSize 3 (lMark 4 1 12 (.ok [], false)))).2 || !whole kx kx) = _
  rw [whole_self, Bool.not_true, Bool.or_false, lMark, lif_yes (by decide), lSize, lif_yes (by decide), lSize, lif_yes (by decide)]
  rw [show (3 : Int).toNat = 3 from rfl, show (300 : Int).toNat = 300 from rfl, d300, digs_small (n := 3) (by omega)]
  rfl
theorem k_wr : wrText [4, 3, 172, 2] = [4, 4, 3, 172, 2] := by
  rw [wrText, show ([4, 3, 172, 2] : List UInt8).length = 4 from rfl, digs_small (by omega)]; rfl
theorem k_rd : rdText [4, 4, 3, 172, 2, 120] 1048576 = .good [4, 3, 172, 2] [120] := by
  have := text_there (t := [4, 3, 172, 2]) (most := 1048576) (by decide) (by decide) [120]
  rw [k_wr] at this
  exact this
theorem k_tk : (tRequest (⟨[4, 3, 172, 2], 0, 0⟩, false)).1.1 = kx ∧ (decide ((tRequest (⟨[4, 3, 172, 2], 0, 0⟩, false)).2.1.done = 0) && !(tRequest (⟨[4, 3, 172, 2], 0, 0⟩, false)).2.2) = true := by
  constructor <;> rfl
theorem k_rq (w : World) : Rq w kx [] (.slice none 0 0) (.slice none 0 0) (.slice none 0 0) :=
  ⟨⟨fun y n c e => (by cases e), fun y n c e => (by cases e), nilI _, nilT _, ⟨none, 0, rfl⟩⟩, ⟨fit_of ⟨by decide, by decide⟩ ⟨by decide, by decide⟩ nt0 ⟨by decide, by decide⟩ LFit.nil EFit.nil, by decide, rfl⟩, fun h => absurd h (by decide)⟩
def kp : Part := ⟨2, 0, 0, 0, [], [], [], 0⟩
theorem p_lay : lReply ((2 : Nat) : Int) kp [] (.ok [], false) = (.ok [2, 2], false) := by rfl
theorem p_wr : wrText [2, 2] = [2, 2, 2] := by
  rw [wrText, show ([2, 2] : List UInt8).length = 2 from rfl, digs_small (by omega)]; rfl
theorem p_rd : rdText [2, 2, 2] 1048576 = .good [2, 2] [] := by
  have := text_there (t := [2, 2]) (most := 1048576) (by decide) (by decide) []
  rw [p_wr] at this
  exact this
theorem p_tk : (tReply 2 (⟨[2, 2], 0, 0⟩, false)).1.1 = kp ∧ (decide ((tReply 2 (⟨[2, 2], 0, 0⟩, false)).2.1.done = 0) && !(tReply 2 (⟨[2, 2], 0, 0⟩, false)).2.2) = true := by
  constructor <;> rfl
theorem p_rr (w : World) : Rr w 2 kp [] (.slice none 0 0) (.slice none 0 0) (.slice none 0 0) :=
  ⟨⟨fun y n c e => (by cases e), fun y n c e => (by cases e), nilT _, nilT _, ⟨none, 0, rfl⟩⟩, ⟨pfit_of nt0 nt0 HFit.nil EFit.nil, by decide, fun h => absurd h (by decide), fun _ => rfl⟩, fun h => absurd h (by decide)⟩
end Msg
end Go.Proofs.YtmhgdcfmfcjagaaGreatDoor

namespace Go.Proofs.YtmhgdcfmfcjagaaGreatDoor
open Go.RowKit Cod
namespace Msg

theorem Got.ak {w : World} {lo : Nat} {x : Ask} {l : List Ask} {ul ue ua : Value} (h : Got w lo x l ul ue ua) : Ak w w.heap.size x ul ue ua := by
  obtain ⟨h1, h2, h3, h4, h5, h6⟩ := h
  refine ⟨h2.lw, h4.lw, h1, h3, ?_⟩
  obtain ⟨p, q, e⟩ := h5.shape
  exact ⟨p, q, by rw [e, h6]⟩
theorem GotR.ap {w : World} {lo : Nat} {x : Part} {l : List Part} {ul ue ua : Value} (h : GotR w lo x l ul ue ua) : Ap w w.heap.size x ul ue ua := by
  obtain ⟨h1, h2, h3, h4, h5, h6⟩ := h
  refine ⟨h2.lw, h4.lw, h1, h3, ?_⟩
  obtain ⟨p, q, e⟩ := h5.shape
  exact ⟨p, q, by rw [e, h6]⟩
set_option maxRecDepth 100000 in
set_option maxHeartbeats 4000000 in
theorem known17_any (w : World) (T : Lay w) : Calls Tryz.prog 7 #[] w fun e w' => e = .returned (.bool true) ∧ Below w.heap.size w w' := by
  have hT := T.lt
  have i1 := encode_yes T (k_rq w) k_lay (by decide)
  rw [k_wr, akV] at i1
  simp only [kx, sv] at i1
  have ha : ∀ w, (binOp .add 9 (.string ⟨#[4, 4, 3, 172, 2]⟩) (.string ⟨#[120]⟩)).run Tryz.prog w = .ok (.string ⟨#[4, 4, 3, 172, 2, 120]⟩) w := fun w => add_sv Tryz.prog 9 [4, 4, 3, 172, 2] [120] (by decide) w
  have HT := hid T
  clear T
  go_enter Tryz.func7, Tryz.ntmps7
  go_wp2_with (first
    | (go_at_call 9; refine i1.mono ?_; rintro e w1 ⟨rfl, h1⟩; have B1 := hid h1; clear h1)
    | (go_at_call 20; fail))
  go_at_call 20
  have T1 : Lay w1 := HT.out.below B1.out hT
  refine (decode_any ⟨#[4, 4, 3, 172, 2, 120]⟩ w1 T1 (by decide)).mono ?_
  rintro e w2 ⟨b2, hD⟩
  have hD : DOk (tRequest (⟨[4, 3, 172, 2], 0, 0⟩, false)) [120] w1 e w2 := by
    have hD' : (match rdText [4, 4, 3, 172, 2, 120] 1048576 with
      | .bad k => e = .returned (.tuple #[rq0, sv [], .int .i64 (unfr k)])
      | .good p r => DOk (tRequest (⟨p, 0, 0⟩, false)) r w1 e w2) := hD
    rw [k_rd] at hD'
    exact hD'
  unfold DOk at hD
  rw [if_pos k_tk.2, k_tk.1] at hD
  obtain ⟨ul, ue, ua, rfl, g1, g2, g3, g4, g5, g6⟩ := hD
  obtain ⟨p1, n1, e1, _⟩ := id g1
  obtain ⟨p2, n2, e2, _⟩ := id g3
  obtain ⟨p3, n3, e3⟩ := g5.shape
  subst e1 e2 e3
  rw [akV]
  have B2 : Hid (Below w.heap.size w w2) := B1.out.trans (b2.mono B1.out.size)
  simp only [kx, sv, List.length_nil] at *
  generalize (tRequest (⟨[4, 3, 172, 2], 0, 0⟩, false)).1.2.length = n9 at *
  clear g1 g2 g3 g4 g5 g6 i1 T1 b2
  have b2a := (Below.refl w2.heap.size w2).alloc (Nat.le_refl _) (.cells #[.int .i64 4, .int .i64 3, .int .i64 0, .int .i64 300, .slice p1 0 n1, .slice p2 0 n2, .slice p3 n9 n3] 26)
  have r2a := heap_alloc_new w2 (.cells #[.int .i64 4, .int .i64 3, .int .i64 0, .int .i64 300, .slice p1 0 n1, .slice p2 0 n2, .slice p3 n9 n3] 26)
  have z2a := size_alloc w2 (.cells #[.int .i64 4, .int .i64 3, .int .i64 0, .int .i64 300, .slice p1 0 n1, .slice p2 0 n2, .slice p3 n9 n3] 26)
  have B2a : Hid (Below w.heap.size w (w2.alloc (.cells #[.int .i64 4, .int .i64 3, .int .i64 0, .int .i64 300, .slice p1 0 n1, .slice p2 0 n2, .slice p3 n9 n3] 26))) := B2.out.trans (b2a.mono B2.out.size)
  have i3 := encodeReply_yes (K := 2) (HT.out.below B2a.out hT) (by omega) (p_rr _) p_lay (by decide)
  rw [p_wr, rpV] at i3
  simp only [kp, sv] at i3
  have R2a := hid r2a
  have Z2a := hid z2a
  clear b2a r2a z2a
  have i3 : Calls Tryz.prog 15 #[.int .i64 2, .agg #[.int .i64 2, .int .i64 0, .int .i64 0, .int .i64 0, .string ⟨#[]⟩, .slice none 0 0, .slice none 0 0, .slice none 0 0]] (w2.alloc (.cells #[.int .i64 4, .int .i64 3, .int .i64 0, .int .i64 300, .slice p1 0 n1, .slice p2 0 n2, .slice p3 n9 n3] 26)) fun e w' => e = .returned (.tuple #[.string ⟨#[2, 2, 2]⟩, .int .i64 0]) ∧ Below (w2.alloc (.cells #[.int .i64 4, .int .i64 3, .int .i64 0, .int .i64 300, .slice p1 0 n1, .slice p2 0 n2, .slice p3 n9 n3] 26)).heap.size (w2.alloc (.cells #[.int .i64 4, .int .i64 3, .int .i64 0, .int .i64 300, .slice p1 0 n1, .slice p2 0 n2, .slice p3 n9 n3] 26)) w' := i3
  go_wp2_with (first
    | (go_at_call 15; refine i3.mono ?_; rintro e w3 ⟨rfl, h3⟩; have R3 := hid ((h3.block _ (by have := Z2a.out; omega)).trans R2a.out); have B3 := hid (B2a.out.trans (h3.mono B2a.out.size)); have Z3 := hid (Nat.le_trans (Nat.le_of_eq Z2a.out.symm) h3.size); clear h3)
    | (go_at_call 24; fail))
  go_at_call 24
  have T3 : Lay w3 := HT.out.below B3.out hT
  have i4 : Calls Tryz.prog 24 #[.int .i64 2, .string ⟨#[2, 2, 2]⟩] w3 (DPostR 2 [2, 2, 2] w3) := decodeR_any 2 (by omega) ⟨#[2, 2, 2]⟩ w3 T3 (by decide)
  refine i4.mono ?_
  rintro e w4 ⟨b4, hD⟩
  have hD : DOkR (tReply 2 (⟨[2, 2], 0, 0⟩, false)) [] w3 e w4 := by
    rw [p_rd] at hD
    exact hD
  unfold DOkR at hD
  rw [if_pos p_tk.2, p_tk.1] at hD
  obtain ⟨uh, ue', up, rfl, g1, g2, g3, g4, g5, g6⟩ := hD
  obtain ⟨p4, n4, e1, _⟩ := id g1
  obtain ⟨p5, n5, e2, _⟩ := id g3
  obtain ⟨p6, n6, e3⟩ := g5.shape
  subst e1 e2 e3
  rw [rpV]
  have B4 : Hid (Below w.heap.size w w4) := B3.out.trans (b4.mono B3.out.size)
  have r4 := (b4.block w2.heap.size (by have := Z3.out; omega)).trans R3.out
  have hlt4 : w2.heap.size < w4.heap.size := by have := Z3.out; have := b4.size; omega
  have hne4 : ¬ w2.heap.size = w4.heap.size := by omega
  have y0 : w4.cell? ⟨w2.heap.size, 0, none⟩ = some (.int .i64 4) := by rw [cell_of_row _ _ _ _ _ _ r4]; rfl
  have y1 : w4.cell? ⟨w2.heap.size, 1, none⟩ = some (.int .i64 3) := by rw [cell_of_row _ _ _ _ _ _ r4]; rfl
  have y3 : w4.cell? ⟨w2.heap.size, 3, none⟩ = some (.int .i64 300) := by rw [cell_of_row _ _ _ _ _ _ r4]; rfl
  simp only [kp, sv, List.length_nil] at *
  generalize (tReply 2 (⟨[2, 2], 0, 0⟩, false)).1.2.length = n8 at *
  clear g1 g2 g3 g4 g5 g6 i3 i4 T3 b4 r4
  have B5 := hid (B4.out.trans (((Below.refl w4.heap.size w4).alloc (Nat.le_refl _) (.cells #[.int .i64 2, .int .i64 0, .int .i64 0, .int .i64 0, .string ⟨#[]⟩, .slice p4 0 n4, .slice p5 0 n5, .slice p6 n8 n6] 45)).mono B4.out.size))
  go_wp2
  go_ret
  exact ⟨rfl, B5.out⟩
end Msg
end Go.Proofs.YtmhgdcfmfcjagaaGreatDoor

namespace Go.Proofs.YtmhgdcfmfcjagaaGreatDoor
open Go.RowKit Cod
namespace Msg

theorem Got.bl {w w' : World} {lo : Nat} {x : Ask} {l : List Ask} {ul ue ua : Value} (h : Got w lo x l ul ue ua) (hb : Below w.heap.size w w') : Got w' lo x l ul ue ua := by
  obtain ⟨h1, h2, h3, h4, h5, h6⟩ := h
  have k : Keep (fun k => w.heap.size ≤ k) w w' := Keep.ofBelow hb
  have hS : ∀ k, lo ≤ k → k < w.heap.size → ¬ w.heap.size ≤ k := fun k _ h e => by omega
  exact ⟨h2.slcI h1 k hS, h2.mono (Nat.le_refl _) hb.size, h4.slc h3 k hS, h4.mono (Nat.le_refl _) hb.size, (h5.keep k hS).mono' hb.size, h6⟩
theorem GotR.bl {w w' : World} {lo : Nat} {x : Part} {l : List Part} {ul ue ua : Value} (h : GotR w lo x l ul ue ua) (hb : Below w.heap.size w w') : GotR w' lo x l ul ue ua := by
  obtain ⟨h1, h2, h3, h4, h5, h6⟩ := h
  have k : Keep (fun k => w.heap.size ≤ k) w w' := Keep.ofBelow hb
  have hS : ∀ k, lo ≤ k → k < w.heap.size → ¬ w.heap.size ≤ k := fun k _ h e => by omega
  exact ⟨h2.slc h1 k hS, h2.mono (Nat.le_refl _) hb.size, h4.slc h3 k hS, h4.mono (Nat.le_refl _) hb.size, (h5.keep k hS).mono (Nat.le_refl _) hb.size, h6⟩
/-- Decode refuses s -/
def NoD (s : ByteArray) (c : Int) : Prop := ∀ w, Lay w → Calls Tryz.prog 20 #[.string s] w fun e w' => e = .returned (.tuple #[rq0, sv [], .int .i64 c]) ∧ Below w.heap.size w w'
/-- Decode takes s, and what it tells is laid down as s began -/
def YesD (s : ByteArray) (x : Ask) (l : List Ask) (f r : List UInt8) : Prop :=
  (∀ w, Lay w → Calls Tryz.prog 20 #[.string s] w fun e w' => (∃ ul ue ua, e = .returned (.tuple #[akV x ul ue ua, sv r, .int .i64 0]) ∧ Got w' w.heap.size x l ul ue ua) ∧ Below w.heap.size w w') ∧
  (∀ w lo ul ue ua, Lay w → Got w lo x l ul ue ua → Calls Tryz.prog 9 #[akV x ul ue ua] w fun e w' => e = .returned (.tuple #[sv f, .int .i64 0]) ∧ Below w.heap.size w w') ∧
  s.data.toList = f ++ r
theorem d_cases (s : ByteArray) (hs : s.size ≤ maxLen) : (∃ c, c ≠ 0 ∧ NoD s c) ∨ ∃ x l f r, YesD s x l f r := by
  cases hR : rdText s.data.toList 1048576 with
  | bad k =>
    refine .inl ⟨unfr k, unfr_ne k, fun w T => (decode_any s w T hs).mono ?_⟩
    rintro e w' ⟨hb, hD⟩
    rw [hR] at hD
    exact ⟨hD, hb⟩
  | good p r =>
    obtain ⟨t1, _, t3, _⟩ := text_back hR
    cases hok : (decide ((tRequest (⟨p, 0, 0⟩, false)).2.1.done = 0) && !(tRequest (⟨p, 0, 0⟩, false)).2.2) with
    | false =>
      refine .inl ⟨173, by omega, fun w T => (decode_any s w T hs).mono ?_⟩
      rintro e w' ⟨hb, hD⟩
      rw [hR] at hD
      have hD : DOk (tRequest (⟨p, 0, 0⟩, false)) r w e w' := hD
      unfold DOk at hD
      rw [if_neg (by rw [hok]; exact Bool.false_ne_true)] at hD
      exact ⟨hD, hb⟩
    | true =>
      have hok2 := hok
      rw [Bool.and_eq_true, decide_eq_true_eq, Bool.not_eq_true'] at hok2
      obtain ⟨d1, d2⟩ := hok2
      obtain ⟨q1, _⟩ := req_strict p d1 d2
      have hpl : p.length ≤ 1048576 := by omega
      obtain ⟨g1, g2⟩ := request_gd (⟨p, 0, 0⟩, false) (by show p.length ≤ _; omega) (done_err d1) d2
      refine .inr ⟨(tRequest (⟨p, 0, 0⟩, false)).1.1, (tRequest (⟨p, 0, 0⟩, false)).1.2, wrText p, r, fun w T => (decode_any s w T hs).mono ?_, fun w lo ul ue ua T hG => ?_, t1⟩
      · rintro e w' ⟨hb, hD⟩
        rw [hR] at hD
        have hD : DOk (tRequest (⟨p, 0, 0⟩, false)) r w e w' := hD
        unfold DOk at hD
        rw [if_pos hok] at hD
        exact ⟨hD, hb⟩
      · refine encode_yes T ⟨hG.ak, g1, fun h12 => ?_⟩ q1 hpl
        obtain ⟨_, _, _, _, h5, h6⟩ := hG
        exact ⟨h5.lower (Nat.zero_le _), h6, g2 h12⟩
/-- DecodeReply refuses s -/
def NoR (k : Int) (s : ByteArray) (c : Int) : Prop := ∀ w, Lay w → Calls Tryz.prog 24 #[.int .i64 k, .string s] w fun e w' => e = .returned (.tuple #[rp0, sv [], .int .i64 c]) ∧ Below w.heap.size w w'
def YesR (k : Int) (s : ByteArray) (x : Part) (l : List Part) (f r : List UInt8) : Prop :=
  (∀ w, Lay w → Calls Tryz.prog 24 #[.int .i64 k, .string s] w fun e w' => (∃ uh ue up, e = .returned (.tuple #[rpV x uh ue up, sv r, .int .i64 0]) ∧ GotR w' w.heap.size x l uh ue up) ∧ Below w.heap.size w w') ∧
  (∀ w lo uh ue up, Lay w → GotR w lo x l uh ue up → Calls Tryz.prog 15 #[.int .i64 k, rpV x uh ue up] w fun e w' => e = .returned (.tuple #[sv f, .int .i64 0]) ∧ Below w.heap.size w w') ∧
  s.data.toList = f ++ r
theorem r_cases (k : Int) (s : ByteArray) (hs : s.size ≤ maxLen) : (∃ c, c ≠ 0 ∧ NoR k s c) ∨ ∃ x l f r, YesR k s x l f r := by
  cases hw : wi k 0 12 with
  | false => exact .inl ⟨170, by omega, fun w _ => decodeR_kind k hw s w⟩
  | true =>
    have hk := wi_iff.1 hw
    obtain ⟨K, rfl⟩ := Int.eq_ofNat_of_zero_le hk.1
    have hK : K ≤ 12 := by omega
    cases hR : rdText s.data.toList 1048576 with
    | bad j =>
      refine .inl ⟨unfr j, unfr_ne j, fun w T => (decodeR_any K hK s w T hs).mono ?_⟩
      rintro e w' ⟨hb, hD⟩
      rw [hR] at hD
      exact ⟨hD, hb⟩
    | good p r =>
      obtain ⟨t1, _, t3, _⟩ := text_back hR
      cases hok : (decide ((tReply K (⟨p, 0, 0⟩, false)).2.1.done = 0) && !(tReply K (⟨p, 0, 0⟩, false)).2.2) with
      | false =>
        refine .inl ⟨173, by omega, fun w T => (decodeR_any K hK s w T hs).mono ?_⟩
        rintro e w' ⟨hb, hD⟩
        rw [hR] at hD
        have hD : DOkR (tReply K (⟨p, 0, 0⟩, false)) r w e w' := hD
        unfold DOkR at hD
        rw [if_neg (by rw [hok]; exact Bool.false_ne_true)] at hD
        exact ⟨hD, hb⟩
      | true =>
        have hok2 := hok
        rw [Bool.and_eq_true, decide_eq_true_eq, Bool.not_eq_true'] at hok2
        obtain ⟨d1, d2⟩ := hok2
        have q1 := reply_strict K p d1 d2
        have hpl : p.length ≤ 1048576 := by omega
        obtain ⟨g1, g2⟩ := reply_gr K (⟨p, 0, 0⟩, false) (by show p.length ≤ _; omega) (done_err d1) d2
        refine .inr ⟨(tReply K (⟨p, 0, 0⟩, false)).1.1, (tReply K (⟨p, 0, 0⟩, false)).1.2, wrText p, r, fun w T => (decodeR_any K hK s w T hs).mono ?_, fun w lo uh ue up T hG => ?_, t1⟩
        · rintro e w' ⟨hb, hD⟩
          rw [hR] at hD
          have hD : DOkR (tReply K (⟨p, 0, 0⟩, false)) r w e w' := hD
          unfold DOkR at hD
          rw [if_pos hok] at hD
          exact ⟨hD, hb⟩
        · refine encodeReply_yes T hK ⟨hG.ap, g1, fun h12 h0 => ?_⟩ q1 hpl
          obtain ⟨_, _, _, _, h5, h6⟩ := hG
          exact ⟨h5.mono (Nat.zero_le _) (Nat.le_refl _), h6, g2 h12 h0⟩
theorem fr_add {s : ByteArray} {f r : List UInt8} (h : s.data.toList = f ++ r) (hs : s.size ≤ maxLen) (w : World) : (binOp .add 9 (sv f) (sv r)).run Tryz.prog w = .ok (.string s) w := by
  have hl : f.length + r.length ≤ 9223372036854775807 := by
    have := congrArg List.length h
    rw [data_length, List.length_append] at this
    unfold maxLen at hs
    omega
  rw [add_sv _ _ _ _ hl, ← h, sv_of]
end Msg
end Go.Proofs.YtmhgdcfmfcjagaaGreatDoor

namespace Go.Proofs.YtmhgdcfmfcjagaaGreatDoor
open Go.RowKit Cod
namespace Msg

/-- the document's take reads what the program's reads, marks aside -/
theorem dFs_t (da : TS → List Ask × TS) (K : Nat) (h12 : K ≠ 12) (s : TS) :
    dFs (flds K) (Ask.of (K : Int), s.1) = ((tFlds da (flds K) ((Ask.of (K : Int), []), s)).1.1, (tFlds da (flds K) ((Ask.of (K : Int), []), s)).2.1) := by
  match K with
  | 0 => rfl
  | 1 => rfl
  | 2 => rfl
  | 3 => rfl
  | 4 => rfl
  | 5 => rfl
  | 6 => rfl
  | 7 => rfl
  | 8 => rfl
  | 9 => rfl
  | 10 => rfl
  | 11 => rfl
  | 12 => exact absurd rfl h12
  | n + 13 => rfl
theorem byte_top (st : RS) : st.val 0 (rdByte st.rest) ≤ 255 := mk_top 0 0 (st, false)
theorem byte_rl (st : RS) : (st.step (rdByte st.rest)).rest.length ≤ st.rest.length := step_len pf_byte.le
theorem num_rl (st : RS) : (st.step (rdNum st.rest)).rest.length ≤ st.rest.length := step_len pf_num.le
theorem fit_dFs (K : Nat) (hK : K ≤ 255) (h12 : K ≠ 12) (st : RS) (hr : st.rest.length ≤ 68719476000) : Fit (dFs (flds K) (Ask.of (K : Int), st)).1 := by
  rw [show st = ((st, false) : TS).1 from rfl, dFs_t (fun s => ([], s)) K h12]
  exact fit_flds _ K hK _ hr
theorem rl_dFs (K : Nat) (h12 : K ≠ 12) (st : RS) : (dFs (flds K) (Ask.of (K : Int), st)).2.rest.length ≤ st.rest.length := by
  conv => lhs; rw [show st = ((st, false) : TS).1 from rfl, dFs_t (fun s => ([], s)) K h12]
  exact rl_flds K (st, false)
theorem n_dF (g : Fq) (p : DS) : (dF g p).1.n = p.1.n := by cases g <;> rfl
theorem n_dFs : ∀ (fs : List Fq) (p : DS), (dFs fs p).1.n = p.1.n
  | [], _ => rfl
  | g :: fs, p => (n_dFs fs (dF g p)).trans (n_dF g p)
theorem fit_zero : Fit Ask.zero := fit_of nt0 nt0 nt0 nt0 LFit.nil EFit.nil
theorem fit_dTak (st : RS) (hr : st.rest.length ≤ 68719476000) : Fit (dTak st).1 ∧ (dTak st).1.n = 0 ∧ (dTak st).2.rest.length ≤ st.rest.length := by
  by_cases h : st.val 0 (rdByte st.rest) = 12
  · rw [dTak, if_pos h]; exact ⟨fit_zero, rfl, byte_rl st⟩
  · rw [dTak, if_neg h]
    exact ⟨fit_dFs _ (byte_top st) h _ (Nat.le_trans (byte_rl st) hr), n_dFs _ _, Nat.le_trans (rl_dFs _ h _) (byte_rl st)⟩
theorem fit_dMany : ∀ (n : Nat) (l : List Ask) (st : RS), st.rest.length ≤ 68719476000 → (∀ y ∈ l, Fit y ∧ y.n = 0) → (∀ y ∈ (dMany n l st).1, Fit y ∧ y.n = 0) ∧ (dMany n l st).1.length = l.length + n
  | 0, l, st, _, h => ⟨h, rfl⟩
  | n + 1, l, st, hr, h => by
    obtain ⟨a1, a2, a3⟩ := fit_dTak st hr
    obtain ⟨b1, b2⟩ := fit_dMany n (l ++ [(dTak st).1]) (dTak st).2 (Nat.le_trans a3 hr) fun y hy => by
      rcases List.mem_append.1 hy with hy | hy
      · exact h y hy
      · rw [List.mem_singleton.1 hy]; exact ⟨a1, a2⟩
    refine ⟨b1, ?_⟩
    rw [dMany, b2, List.length_append]
    simp; omega
/-- what the document's take makes of a whole -/
def dAll (st : RS) : (Ask × List Ask) × RS :=
  if st.val 0 (rdByte st.rest) = 12 then
    ((⟨12, 0, 0, 0, [], [], (dMany (min ((st.step (rdByte st.rest)).val 0 (rdNum (st.step (rdByte st.rest)).rest)) 65) [] ((st.step (rdByte st.rest)).step (rdNum (st.step (rdByte st.rest)).rest))).1.length⟩,
      (dMany (min ((st.step (rdByte st.rest)).val 0 (rdNum (st.step (rdByte st.rest)).rest)) 65) [] ((st.step (rdByte st.rest)).step (rdNum (st.step (rdByte st.rest)).rest))).1),
      (dMany (min ((st.step (rdByte st.rest)).val 0 (rdNum (st.step (rdByte st.rest)).rest)) 65) [] ((st.step (rdByte st.rest)).step (rdNum (st.step (rdByte st.rest)).rest))).2)
  else (((dFs (flds (st.val 0 (rdByte st.rest))) (Ask.of ((st.val 0 (rdByte st.rest) : Nat) : Int), st.step (rdByte st.rest))).1, []), (dFs (flds (st.val 0 (rdByte st.rest))) (Ask.of ((st.val 0 (rdByte st.rest) : Nat) : Int), st.step (rdByte st.rest))).2)
theorem fit_dAll (st : RS) (hr : st.rest.length ≤ 68719476000) : Fit (dAll st).1.1 ∧ (dAll st).1.1.n = (dAll st).1.2.length ∧ ∀ y ∈ (dAll st).1.2, Fit y ∧ y.n = 0 := by
  by_cases h : st.val 0 (rdByte st.rest) = 12
  · rw [dAll, if_pos h]
    exact ⟨fit_of (nt_nat (k := 12) (by omega)) nt0 nt0 nt0 LFit.nil EFit.nil, rfl, (fit_dMany _ [] _ (Nat.le_trans (num_rl _) (Nat.le_trans (byte_rl st) hr)) (fun y hy => by cases hy)).1⟩
  · rw [dAll, if_neg h]
    exact ⟨fit_dFs _ (byte_top st) h _ (Nat.le_trans (byte_rl st) hr), n_dFs _ _, fun y hy => by cases hy⟩
/-- where the program's take is content the document's has the same -/
theorem dTak_t (s : TS) (k : (tAsk s).2.2 = false) : dTak s.1 = ((tAsk s).1, (tAsk s).2.1) := by
  by_cases hw : wi ((tMark 3 7 s).1 : Int) 3 7 = true
  · have h := wi_iff.1 hw
    have hm : (tMark 3 7 s).1 = s.1.val 0 (rdByte s.1.rest) := rfl
    have h12 : s.1.val 0 (rdByte s.1.rest) ≠ 12 := by rw [← hm]; omega
    rw [dTak, if_neg h12, tAsk, tReq, if_pos hw]
    exact dFs_t (fun s => ([], s)) _ h12 (tMark 3 7 s).2
  · rw [tAsk, tReq, if_neg hw] at k
    exact absurd (mark_ok k) hw
theorem dMany_t : ∀ (n : Nat) (l : List Ask) (s : TS), (tMany n l s).2.1.err = 0 → (tMany n l s).2.2 = false → dMany n l s.1 = ((tMany n l s).1, (tMany n l s).2.1)
  | 0, _, _, _, _ => rfl
  | n + 1, l, s, e1, e2 => by
    obtain ⟨l', _, h2⟩ := sim_many n (l ++ [(tAsk s).1]) (tAsk s).2
    rw [tMany] at e1 e2
    obtain ⟨_, g2, _⟩ := h2 e1 e2
    rw [dMany, dTak_t s g2, tMany]
    exact dMany_t n _ _ e1 e2
theorem dAll_t (s : TS) (e1 : (tRequest s).2.1.err = 0) (e2 : (tRequest s).2.2 = false) : dAll s.1 = ((tRequest s).1, (tRequest s).2.1) := by
  by_cases hw : wi ((tMark 1 12 s).1 : Int) 1 12 = true
  · have hm : (tMark 1 12 s).1 = s.1.val 0 (rdByte s.1.rest) := rfl
    rw [tRequest, tReq, if_pos hw] at e1 e2 ⊢
    by_cases h12 : s.1.val 0 (rdByte s.1.rest) = 12
    · rw [hm, h12] at e1 e2 ⊢
      have e1 : (tAsks (tMark 1 12 s).2).2.1.err = 0 := e1
      have e2 : (tAsks (tMark 1 12 s).2).2.2 = false := e2
      obtain ⟨l', _, h2⟩ := sim_many (tCount (tMark 1 12 s).2).1 [] (tCount (tMark 1 12 s).2).2
      obtain ⟨_, g2, _⟩ := h2 e1 e2
      have hc := (sim_count (tMark 1 12 s).2).2 g2
      have hb := wi_iff.1 hc
      have hn : (tCount (tMark 1 12 s).2).1 = (s.1.step (rdByte s.1.rest)).val 0 (rdNum (s.1.step (rdByte s.1.rest)).rest) := by
        have : ((tMark 1 12 s).2.2 || !wi ((tk rdNum (fun n => wi (n : Int) 1 64) 0 (tMark 1 12 s).2).1 : Int) 1 64) = false := g2
        rw [Bool.or_eq_false_iff, Bool.not_eq_false'] at this
        exact if_pos this.2
      have hd := dMany_t _ _ _ e1 e2
      rw [dAll, if_pos h12, ← hn, Nat.min_eq_left (by omega)]
      have hd : dMany (tCount (tMark 1 12 s).2).1 [] ((s.1.step (rdByte s.1.rest)).step (rdNum (s.1.step (rdByte s.1.rest)).rest)) = ((tAsks (tMark 1 12 s).2).1, (tAsks (tMark 1 12 s).2).2.1) := hd
      rw [hd]
      rfl
    · rw [dAll, if_neg h12]
      have h := dFs_t tAsks _ h12 (tMark 1 12 s).2
      have hl : (tFlds tAsks (flds (tMark 1 12 s).1) ((Ask.of ((tMark 1 12 s).1 : Int), []), (tMark 1 12 s).2)).1.2 = [] := by
        rw [hm]
        generalize s.1.val 0 (rdByte s.1.rest) = K at h12
        match K with
        | 0 => rfl
        | 1 => rfl
        | 2 => rfl
        | 3 => rfl
        | 4 => rfl
        | 5 => rfl
        | 6 => rfl
        | 7 => rfl
        | 8 => rfl
        | 9 => rfl
        | 10 => rfl
        | 11 => rfl
        | 12 => exact absurd rfl h12
        | n + 13 => rfl
      have h' : dFs (flds (s.1.val 0 (rdByte s.1.rest))) (Ask.of ((s.1.val 0 (rdByte s.1.rest) : Nat) : Int), s.1.step (rdByte s.1.rest)) = _ := h
      rw [h']
      rw [hm] at hl ⊢
      generalize tFlds tAsks (flds (s.1.val 0 (rdByte s.1.rest))) ((Ask.of ((s.1.val 0 (rdByte s.1.rest) : Nat) : Int), []), (tMark 1 12 s).2) = P at hl ⊢
      obtain ⟨⟨x, l⟩, t⟩ := P
      have hl : l = [] := hl
      subst hl
      rfl
  · rw [tRequest, tReq, if_neg hw] at e2
    exact absurd (mark_ok e2) hw
end Msg
end Go.Proofs.YtmhgdcfmfcjagaaGreatDoor

namespace Go.Proofs.YtmhgdcfmfcjagaaGreatDoor
open Go.RowKit Cod
namespace Msg

set_option maxRecDepth 100000 in
set_option maxHeartbeats 800000 in
theorem sameInts_yes (l : List Int) (ua ub : Value) (w : World) (ha : SlcI w ua l) (hb : SlcI w ub l) (hll : l.length ≤ maxLen) :
    Calls Tryz.prog 38 #[ua, ub] w fun e w' => e = .returned (.bool true) ∧ Below w.heap.size w w' := by
  obtain ⟨a, ca, rfl, ha⟩ := ha
  obtain ⟨d, cd, rfl, hd⟩ := hb
  unfold maxLen at hll
  have Ha := hid ha
  have Hd := hid hd
  clear ha hd
  go_enter Tryz.func38, Tryz.ntmps38
  go_wp2
  go_loopw [5] (fun i w' => ∃ k : Nat, k ≤ l.length ∧ i = .int .i64 k ∧ Hid (Below w.heap.size w w')) (fun i _ => l.length - (intOf i).toNat)
  case atStart => exact ⟨0, by omega, rfl, hid (Below.refl _ _)⟩
  case round =>
    obtain ⟨k, hk, rfl, hw'⟩ := hrel
    by_cases hlt : k < l.length
    · have b0 : (k : Int) < (l.length : Int) := by omega
      obtain ⟨x, rfl, xb, hx⟩ := Ha.out k l[k] (List.getElem?_eq_getElem hlt)
      rw [← hw'.out.cell (p := x.add k) (by rw [add_block]; exact xb)] at hx
      clear xb
      obtain ⟨y, rfl, yb, hy⟩ := Hd.out k l[k] (List.getElem?_eq_getElem hlt)
      rw [← hw'.out.cell (p := y.add k) (by rw [add_block]; exact yb)] at hy
      clear yb
      generalize l[k] = p at *
      have y1 : (p == p) = true := by simp
      have y2 : (p != p) = false := by simp
      go_wp2
      go_quiet (fail)
      go_wp2
      exact ⟨⟨k + 1, by omega, by go_num, hid (below_drewN17 hw'.out _)⟩, by simp [intOf]; omega⟩
    · have b0 : ¬ (k : Int) < (l.length : Int) := by omega
      go_wp2
      go_ret
      exact ⟨rfl, hw'.out⟩
/-- two requests without requests in them -/
abbrev aqO (x : Ask) (ul ue ua : Value) : Array Value := #[.int .i64 x.kind, .int .i64 x.a, .int .i64 x.b, .int .i64 x.size, ul, ue, ua]
set_option maxRecDepth 100000 in
set_option maxHeartbeats 2000000 in
theorem sameRequest_flat {w : World} {x : Ask} {uh ue uh' ue' : Value} {p3 p4 : Option Addr} {q3 q4 : Nat} (hn : x.n = 0) (a1 : SlcI w uh x.list) (a2 : Slc w ue x.ent) (b1 : SlcI w uh' x.list) (b2 : Slc w ue' x.ent) (hl1 : x.list.length ≤ maxLen) (hl2 : x.ent.length ≤ maxLen) :
    Calls Tryz.prog 11 #[.agg (aqO x uh ue (.slice p3 x.n q3)), .agg (aqO x uh' ue' (.slice p4 x.n q4))] w fun e w' => e = .returned (.bool true) ∧ Below w.heap.size w w' := by
  rw [hn]
  have bA := ((Below.refl w.heap.size w).alloc (Nat.le_refl _) (.cells (aqO x uh ue (.slice p3 0 q3)) 26)).alloc (by rw [size_alloc]; omega) (.cells (aqO x uh' ue' (.slice p4 0 q4)) 26)
  have i1 := sameInts_yes x.list uh uh' _ (SlcI.bl17 a1 bA) (SlcI.bl17 b1 bA) hl1
  have A2 := hid (a2.below bA (Nat.le_refl _))
  have B2 := hid (b2.below bA (Nat.le_refl _))
  have r1 : ((w.alloc (.cells (aqO x uh ue (.slice p3 0 q3)) 26)).alloc (.cells (aqO x uh' ue' (.slice p4 0 q4)) 26)).heap[w.heap.size]? = some (.cells (aqO x uh ue (.slice p3 0 q3)) 26 (0, 0)) := (((Below.refl _ _).alloc (Nat.le_refl _) _).block _ (by rw [size_alloc]; omega)).trans (heap_alloc_new _ _)
  have r2 : ((w.alloc (.cells (aqO x uh ue (.slice p3 0 q3)) 26)).alloc (.cells (aqO x uh' ue' (.slice p4 0 q4)) 26)).heap[w.heap.size + 1]? = some (.cells (aqO x uh' ue' (.slice p4 0 q4)) 26 (0, 0)) := heap_alloc_at _ _ _ (size_alloc _ _)
  have zz : ((w.alloc (.cells (aqO x uh ue (.slice p3 0 q3)) 26)).alloc (.cells (aqO x uh' ue' (.slice p4 0 q4)) 26)).heap.size = w.heap.size + 1 + 1 := by rw [size_alloc, size_alloc]
  have BA := hid bA
  obtain ⟨p5, q5, rfl, _⟩ := a1
  obtain ⟨p6, q6, rfl, _⟩ := a2
  obtain ⟨p7, q7, rfl, _⟩ := b1
  obtain ⟨p8, q8, rfl, _⟩ := b2
  clear bA
  go_enter Tryz.func11, Tryz.ntmps11
  go_wp2_with (go_at_call 38; fail)
  go_at_call 38
  refine i1.mono ?_
  rintro e w1 ⟨rfl, h1⟩
  have R1 := (h1.block _ (by omega)).trans r1
  have R2 := (h1.block _ (by omega)).trans r2
  have BB1 := hid (BA.out.trans (h1.mono (by omega)))
  have i2 := sameTexts_yes x.ent _ _ w1 (A2.out.below h1 (Nat.le_refl _)) (B2.out.below h1 (Nat.le_refl _)) hl2
  have c6 : w1.cell? ⟨w.heap.size, 5, none⟩ = some (.slice p6 x.ent.length q6) := by rw [cell_of_row _ _ _ _ _ _ R1]; rfl
  have d6 : w1.cell? ⟨w.heap.size + 1, 5, none⟩ = some (.slice p8 x.ent.length q8) := by rw [cell_of_row _ _ _ _ _ _ R2]; rfl
  have hs1 := h1.size
  clear h1 i1 r1 r2
  go_wp2_with (go_at_call 39; fail)
  go_at_call 39
  refine i2.mono ?_
  rintro e w2 ⟨rfl, h2⟩
  have S1 := (h2.block _ (by omega)).trans R1
  have S2 := (h2.block _ (by omega)).trans R2
  have BB2 := hid (BB1.out.trans (h2.mono (by omega)))
  have e0 : w2.cell? ⟨w.heap.size, 0, none⟩ = some (.int .i64 x.kind) := by rw [cell_of_row _ _ _ _ _ _ S1]; rfl
  have e1 : w2.cell? ⟨w.heap.size, 1, none⟩ = some (.int .i64 x.a) := by rw [cell_of_row _ _ _ _ _ _ S1]; rfl
  have e2 : w2.cell? ⟨w.heap.size, 2, none⟩ = some (.int .i64 x.b) := by rw [cell_of_row _ _ _ _ _ _ S1]; rfl
  have e3 : w2.cell? ⟨w.heap.size, 3, none⟩ = some (.int .i64 x.size) := by rw [cell_of_row _ _ _ _ _ _ S1]; rfl
  have e7 : w2.cell? ⟨w.heap.size, 6, none⟩ = some (.slice p3 0 q3) := by rw [cell_of_row _ _ _ _ _ _ S1]; rfl
  have f0 : w2.cell? ⟨w.heap.size + 1, 0, none⟩ = some (.int .i64 x.kind) := by rw [cell_of_row _ _ _ _ _ _ S2]; rfl
  have f1 : w2.cell? ⟨w.heap.size + 1, 1, none⟩ = some (.int .i64 x.a) := by rw [cell_of_row _ _ _ _ _ _ S2]; rfl
  have f2 : w2.cell? ⟨w.heap.size + 1, 2, none⟩ = some (.int .i64 x.b) := by rw [cell_of_row _ _ _ _ _ _ S2]; rfl
  have f3 : w2.cell? ⟨w.heap.size + 1, 3, none⟩ = some (.int .i64 x.size) := by rw [cell_of_row _ _ _ _ _ _ S2]; rfl
  have f7 : w2.cell? ⟨w.heap.size + 1, 6, none⟩ = some (.slice p4 0 q4) := by rw [cell_of_row _ _ _ _ _ _ S2]; rfl
  have n0 : (x.kind != x.kind) = false := by simp
  have n1 : (x.size != x.size) = false := by simp
  have n2 : (x.a != x.a) = false := by simp
  have n3 : (x.b != x.b) = false := by simp
  clear h2 i2 R1 R2 S1 S2 c6 d6
  generalize x.kind = xs at *
  generalize x.size = xz at *
  generalize x.a = xa at *
  generalize x.b = xb at *
  go_wp2
  go_loopw [7] (fun i w' => i = .int .i64 0 ∧ w' = w2) (fun _ _ => 0)
  case atStart => exact ⟨rfl, rfl⟩
  case round =>
    obtain ⟨rfl, rfl⟩ := hrel
    go_wp2
    go_ret
    exact ⟨rfl, BB2.out⟩
end Msg
end Go.Proofs.YtmhgdcfmfcjagaaGreatDoor
