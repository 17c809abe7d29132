import Derived.Test.YtdhnjajloidohaaGreatDoorPkMZ1
namespace Go.Proofs.YtdhnjajloidohaaGreatDoor
open Go.RowKit Cod
namespace Msg

set_option maxRecDepth 100000 in
set_option maxHeartbeats 4000000 in
/-- DecodeReply of no kind -/
theorem decodeR_kind (k : Int) (hw : wi k 0 12 = false) (s : ByteArray) (w : World) :
    Calls Tryz.prog 12 #[.int .i64 k, .string s] w fun e w' => e = .returned (.tuple #[rp0, sv [], .int .i64 170]) ∧ Below w.heap.size w w' := by
  have r0 := hid (heap_alloc_new w (.cells #[.int .i64 0, .int .i64 0, .int .i64 0, .int .i64 0, .string ⟨#[]⟩, .slice none 0 0, .slice none 0 0, .slice none 0 0] 36))
  have b0 := hid ((Below.refl w.heap.size w).alloc (Nat.le_refl _) (.cells #[.int .i64 0, .int .i64 0, .int .i64 0, .int .i64 0, .string ⟨#[]⟩, .slice none 0 0, .slice none 0 0, .slice none 0 0] 36))
  go_enter Tryz.func12, Tryz.ntmps12
  go_wp2_with (first
    | (go_at_call 33; refine (within_any _ _ _ _).mono ?_; rw [hw]; rintro e w' ⟨rfl, hw'⟩; rw [hw']; clear hw' w')
    | ((with_reducible show wpList _ _ _ (Oper.mk _ (Op.store 36 _ _) _ _ _ _ :: _) _ _); go_must (refine wpList_store_row rfl 36 _ _ rfl w.heap.size _ rfl rfl 36 _ r0.out (sizeRp' _ _ _ _ _ _ _ _) rfl (oneRp _ _ _ _ _ _ _ _ _ _ _ _ _ _) ?_)))
  refine bodyPost_ret (results_row_tmp2 rfl _ _ w.heap.size 36 _ (0, 0) _ rfl (setRow_heap _ _ _ _ _ _ r0.out) Tryz.underlying36 rfl sizeRp) rfl ?_
  exact ⟨rfl, Below.setRow b0.out (Nat.le_refl _) _⟩
def kx : Ask := ⟨4, 3, 0, 300, [], [], 0⟩
theorem d300 : digs 300 = [172, 2] := by rw [digs_great (by omega), digs_small (by omega)]; rfl
theorem k_lay : lRequest kx [] (.ok [], false) = (.ok [4, 3, 172, 2], false) := by
  show lReq kx (lAsks []) 1 12 _ = _
  rw [lReq, if_pos (by decide)]
  show ((lSize 300 (lSize 3 (lMark 4 1 12 (.ok [], false)))).1, (lSize 300 (lSize 3 (lMark 4 1 12 (.ok [], false)))).2 || !whole kx kx) = _
  rw [whole_self, Bool.not_true, Bool.or_false, lMark, lif_yes (by decide), lSize, lif_yes (by decide), lSize, lif_yes (by decide)]
  rw [show (3 : Int).toNat = 3 from rfl, show (300 : Int).toNat = 300 from rfl, d300, digs_small (n := 3) (by omega)]
  rfl
theorem k_wr : wrText [4, 3, 172, 2] = [4, 4, 3, 172, 2] := by
  rw [wrText, show ([4, 3, 172, 2] : List UInt8).length = 4 from rfl, digs_small (by omega)]; rfl
theorem k_rd : rdText [4, 4, 3, 172, 2, 120] 1048576 = .good [4, 3, 172, 2] [120] := by
  have := text_there (t := [4, 3, 172, 2]) (most := 1048576) (by decide) (by decide) [120]
  rw [k_wr] at this
  exact this
theorem k_tk : (tRequest (⟨[4, 3, 172, 2], 0, 0⟩, false)).1.1 = kx ∧ (decide ((tRequest (⟨[4, 3, 172, 2], 0, 0⟩, false)).2.1.done = 0) && !(tRequest (⟨[4, 3, 172, 2], 0, 0⟩, false)).2.2) = true := by
  constructor <;> rfl
theorem k_rq (w : World) : Rq w kx [] (.slice none 0 0) (.slice none 0 0) (.slice none 0 0) :=
  ⟨⟨fun y n c e => (by cases e), fun y n c e => (by cases e), nilI _, nilT _, ⟨none, 0, rfl⟩⟩, ⟨fit_of ⟨by decide, by decide⟩ ⟨by decide, by decide⟩ nt0 ⟨by decide, by decide⟩ LFit.nil EFit.nil, by decide, rfl⟩, fun h => absurd h (by decide)⟩
def kp : Part := ⟨2, 0, 0, 0, [], [], [], 0⟩
theorem p_lay : lReply ((2 : Nat) : Int) kp [] (.ok [], false) = (.ok [2, 2], false) := by rfl
theorem p_wr : wrText [2, 2] = [2, 2, 2] := by
  rw [wrText, show ([2, 2] : List UInt8).length = 2 from rfl, digs_small (by omega)]; rfl
theorem p_rd : rdText [2, 2, 2] 1048576 = .good [2, 2] [] := by
  have := text_there (t := [2, 2]) (most := 1048576) (by decide) (by decide) []
  rw [p_wr] at this
  exact this
theorem p_tk : (tReply 2 (⟨[2, 2], 0, 0⟩, false)).1.1 = kp ∧ (decide ((tReply 2 (⟨[2, 2], 0, 0⟩, false)).2.1.done = 0) && !(tReply 2 (⟨[2, 2], 0, 0⟩, false)).2.2) = true := by
  constructor <;> rfl
theorem p_rr (w : World) : Rr w 2 kp [] (.slice none 0 0) (.slice none 0 0) (.slice none 0 0) :=
  ⟨⟨fun y n c e => (by cases e), fun y n c e => (by cases e), nilT _, nilT _, ⟨none, 0, rfl⟩⟩, ⟨pfit_of nt0 nt0 HFit.nil EFit.nil, by decide, fun h => absurd h (by decide), fun _ => rfl⟩, fun h => absurd h (by decide)⟩
end Msg
end Go.Proofs.YtdhnjajloidohaaGreatDoor

namespace Go.Proofs.YtdhnjajloidohaaGreatDoor
open Go.RowKit Cod
namespace Msg

theorem Got.ak {w : World} {lo : Nat} {x : Ask} {l : List Ask} {ul ue ua : Value} (h : Got w lo x l ul ue ua) : Ak w w.heap.size x ul ue ua := by
  obtain ⟨h1, h2, h3, h4, h5, h6⟩ := h
  refine ⟨h2.lw, h4.lw, h1, h3, ?_⟩
  obtain ⟨p, q, e⟩ := h5.shape
  exact ⟨p, q, by rw [e, h6]⟩
theorem GotR.ap {w : World} {lo : Nat} {x : Part} {l : List Part} {ul ue ua : Value} (h : GotR w lo x l ul ue ua) : Ap w w.heap.size x ul ue ua := by
  obtain ⟨h1, h2, h3, h4, h5, h6⟩ := h
  refine ⟨h2.lw, h4.lw, h1, h3, ?_⟩
  obtain ⟨p, q, e⟩ := h5.shape
  exact ⟨p, q, by rw [e, h6]⟩
set_option maxRecDepth 100000 in
set_option maxHeartbeats 4000000 in
theorem known17_any (w : World) (T : Lay w) : Calls Tryz.prog 9 #[] w fun e w' => e = .returned (.bool true) ∧ Below w.heap.size w w' := by
  have hT := T.lt
  have i1 := encode_yes T (k_rq w) k_lay (by decide)
  rw [k_wr, akV] at i1
  simp only [kx, sv] at i1
  have ha : ∀ w, (binOp .add 9 (.string ⟨#[4, 4, 3, 172, 2]⟩) (.string ⟨#[120]⟩)).run Tryz.prog w = .ok (.string ⟨#[4, 4, 3, 172, 2, 120]⟩) w := fun w => add_sv Tryz.prog 9 [4, 4, 3, 172, 2] [120] (by decide) w
  have HT := hid T
  clear T
  go_enter Tryz.func9, Tryz.ntmps9
  go_wp2_with (first
    | (go_at_call 11; refine i1.mono ?_; rintro e w1 ⟨rfl, h1⟩; have B1 := hid h1; clear h1)
    | (go_at_call 10; fail))
  go_at_call 10
  have T1 : Lay w1 := HT.out.below B1.out hT
  refine (decode_any ⟨#[4, 4, 3, 172, 2, 120]⟩ w1 T1 (by decide)).mono ?_
  rintro e w2 ⟨b2, hD⟩
  have hD : DOk (tRequest (⟨[4, 3, 172, 2], 0, 0⟩, false)) [120] w1 e w2 := by
    have hD' : (match rdText [4, 4, 3, 172, 2, 120] 1048576 with
      | .bad k => e = .returned (.tuple #[rq0, sv [], .int .i64 (unfr k)])
      | .good p r => DOk (tRequest (⟨p, 0, 0⟩, false)) r w1 e w2) := hD
    rw [k_rd] at hD'
    exact hD'
  unfold DOk at hD
  rw [if_pos k_tk.2, k_tk.1] at hD
  obtain ⟨ul, ue, ua, rfl, g1, g2, g3, g4, g5, g6⟩ := hD
  obtain ⟨p1, n1, e1, _⟩ := id g1
  obtain ⟨p2, n2, e2, _⟩ := id g3
  obtain ⟨p3, n3, e3⟩ := g5.shape
  subst e1 e2 e3
  rw [akV]
  have B2 : Hid (Below w.heap.size w w2) := B1.out.trans (b2.mono B1.out.size)
  simp only [kx, sv, List.length_nil] at *
  generalize (tRequest (⟨[4, 3, 172, 2], 0, 0⟩, false)).1.2.length = n9 at *
  clear g1 g2 g3 g4 g5 g6 i1 T1 b2
  have b2a := (Below.refl w2.heap.size w2).alloc (Nat.le_refl _) (.cells #[.int .i64 4, .int .i64 3, .int .i64 0, .int .i64 300, .slice p1 0 n1, .slice p2 0 n2, .slice p3 n9 n3] 27)
  have r2a := heap_alloc_new w2 (.cells #[.int .i64 4, .int .i64 3, .int .i64 0, .int .i64 300, .slice p1 0 n1, .slice p2 0 n2, .slice p3 n9 n3] 27)
  have z2a := size_alloc w2 (.cells #[.int .i64 4, .int .i64 3, .int .i64 0, .int .i64 300, .slice p1 0 n1, .slice p2 0 n2, .slice p3 n9 n3] 27)
  have B2a : Hid (Below w.heap.size w (w2.alloc (.cells #[.int .i64 4, .int .i64 3, .int .i64 0, .int .i64 300, .slice p1 0 n1, .slice p2 0 n2, .slice p3 n9 n3] 27))) := B2.out.trans (b2a.mono B2.out.size)
  have i3 := encodeReply_yes (K := 2) (HT.out.below B2a.out hT) (by omega) (p_rr _) p_lay (by decide)
  rw [p_wr, rpV] at i3
  simp only [kp, sv] at i3
  have R2a := hid r2a
  have Z2a := hid z2a
  clear b2a r2a z2a
  have i3 : Calls Tryz.prog 13 #[.int .i64 2, .agg #[.int .i64 2, .int .i64 0, .int .i64 0, .int .i64 0, .string ⟨#[]⟩, .slice none 0 0, .slice none 0 0, .slice none 0 0]] (w2.alloc (.cells #[.int .i64 4, .int .i64 3, .int .i64 0, .int .i64 300, .slice p1 0 n1, .slice p2 0 n2, .slice p3 n9 n3] 27)) fun e w' => e = .returned (.tuple #[.string ⟨#[2, 2, 2]⟩, .int .i64 0]) ∧ Below (w2.alloc (.cells #[.int .i64 4, .int .i64 3, .int .i64 0, .int .i64 300, .slice p1 0 n1, .slice p2 0 n2, .slice p3 n9 n3] 27)).heap.size (w2.alloc (.cells #[.int .i64 4, .int .i64 3, .int .i64 0, .int .i64 300, .slice p1 0 n1, .slice p2 0 n2, .slice p3 n9 n3] 27)) w' := i3
  go_wp2_with (first
    | (go_at_call 13; refine i3.mono ?_; rintro e w3 ⟨rfl, h3⟩; have R3 := hid ((h3.block _ (by have := Z2a.out; omega)).trans R2a.out); have B3 := hid (B2a.out.trans (h3.mono B2a.out.size)); have Z3 := hid (Nat.le_trans (Nat.le_of_eq Z2a.out.symm) h3.size); clear h3)
    | (go_at_call 12; fail))
  go_at_call 12
  have T3 : Lay w3 := HT.out.below B3.out hT
  have i4 : Calls Tryz.prog 12 #[.int .i64 2, .string ⟨#[2, 2, 2]⟩] w3 (DPostR 2 [2, 2, 2] w3) := decodeR_any 2 (by omega) ⟨#[2, 2, 2]⟩ w3 T3 (by decide)
  refine i4.mono ?_
  rintro e w4 ⟨b4, hD⟩
  have hD : DOkR (tReply 2 (⟨[2, 2], 0, 0⟩, false)) [] w3 e w4 := by
    rw [p_rd] at hD
    exact hD
  unfold DOkR at hD
  rw [if_pos p_tk.2, p_tk.1] at hD
  obtain ⟨uh, ue', up, rfl, g1, g2, g3, g4, g5, g6⟩ := hD
  obtain ⟨p4, n4, e1, _⟩ := id g1
  obtain ⟨p5, n5, e2, _⟩ := id g3
  obtain ⟨p6, n6, e3⟩ := g5.shape
  subst e1 e2 e3
  rw [rpV]
  have B4 : Hid (Below w.heap.size w w4) := B3.out.trans (b4.mono B3.out.size)
  have r4 := (b4.block w2.heap.size (by have := Z3.out; omega)).trans R3.out
  have hlt4 : w2.heap.size < w4.heap.size := by have := Z3.out; have := b4.size; omega
  have hne4 : ¬ w2.heap.size = w4.heap.size := by omega
  have y0 : w4.cell? ⟨w2.heap.size, 0, none⟩ = some (.int .i64 4) := by rw [cell_of_row _ _ _ _ _ _ r4]; rfl
  have y1 : w4.cell? ⟨w2.heap.size, 1, none⟩ = some (.int .i64 3) := by rw [cell_of_row _ _ _ _ _ _ r4]; rfl
  have y3 : w4.cell? ⟨w2.heap.size, 3, none⟩ = some (.int .i64 300) := by rw [cell_of_row _ _ _ _ _ _ r4]; rfl
  simp only [kp, sv, List.length_nil] at *
  generalize (tReply 2 (⟨[2, 2], 0, 0⟩, false)).1.2.length = n8 at *
  clear g1 g2 g3 g4 g5 g6 i3 i4 T3 b4 r4
  have B5 := hid (B4.out.trans (((Below.refl w4.heap.size w4).alloc (Nat.le_refl _) (.cells #[.int .i64 2, .int .i64 0, .int .i64 0, .int .i64 0, .string ⟨#[]⟩, .slice p4 0 n4, .slice p5 0 n5, .slice p6 n8 n6] 36)).mono B4.out.size))
  go_wp2
  go_ret
  exact ⟨rfl, B5.out⟩
end Msg
end Go.Proofs.YtdhnjajloidohaaGreatDoor

namespace Go.Proofs.YtdhnjajloidohaaGreatDoor
open Go.RowKit Cod
namespace Msg

theorem Got.bl {w w' : World} {lo : Nat} {x : Ask} {l : List Ask} {ul ue ua : Value} (h : Got w lo x l ul ue ua) (hb : Below w.heap.size w w') : Got w' lo x l ul ue ua := by
  obtain ⟨h1, h2, h3, h4, h5, h6⟩ := h
  have k : Keep (fun k => w.heap.size ≤ k) w w' := Keep.ofBelow hb
  have hS : ∀ k, lo ≤ k → k < w.heap.size → ¬ w.heap.size ≤ k := fun k _ h e => by omega
  exact ⟨h2.slcI h1 k hS, h2.mono (Nat.le_refl _) hb.size, h4.slc h3 k hS, h4.mono (Nat.le_refl _) hb.size, (h5.keep k hS).mono' hb.size, h6⟩
theorem GotR.bl {w w' : World} {lo : Nat} {x : Part} {l : List Part} {ul ue ua : Value} (h : GotR w lo x l ul ue ua) (hb : Below w.heap.size w w') : GotR w' lo x l ul ue ua := by
  obtain ⟨h1, h2, h3, h4, h5, h6⟩ := h
  have k : Keep (fun k => w.heap.size ≤ k) w w' := Keep.ofBelow hb
  have hS : ∀ k, lo ≤ k → k < w.heap.size → ¬ w.heap.size ≤ k := fun k _ h e => by omega
  exact ⟨h2.slc h1 k hS, h2.mono (Nat.le_refl _) hb.size, h4.slc h3 k hS, h4.mono (Nat.le_refl _) hb.size, (h5.keep k hS).mono (Nat.le_refl _) hb.size, h6⟩
/-- Decode refuses s -/
def NoD (s : ByteArray) (c : Int) : Prop := ∀ w, Lay w → Calls Tryz.prog 10 #[.string s] w fun e w' => e = .returned (.tuple #[rq0, sv [], .int .i64 c]) ∧ Below w.heap.size w w'
/-- Decode takes s, and what it tells is laid down as s began -/
def YesD (s : ByteArray) (x : Ask) (l : List Ask) (f r : List UInt8) : Prop :=
  (∀ w, Lay w → Calls Tryz.prog 10 #[.string s] w fun e w' => (∃ ul ue ua, e = .returned (.tuple #[akV x ul ue ua, sv r, .int .i64 0]) ∧ Got w' w.heap.size x l ul ue ua) ∧ Below w.heap.size w w') ∧
  (∀ w lo ul ue ua, Lay w → Got w lo x l ul ue ua → Calls Tryz.prog 11 #[akV x ul ue ua] w fun e w' => e = .returned (.tuple #[sv f, .int .i64 0]) ∧ Below w.heap.size w w') ∧
  s.data.toList = f ++ r
theorem d_cases (s : ByteArray) (hs : s.size ≤ maxLen) : (∃ c, c ≠ 0 ∧ NoD s c) ∨ ∃ x l f r, YesD s x l f r := by
  cases hR : rdText s.data.toList 1048576 with
  | bad k =>
    refine .inl ⟨unfr k, unfr_ne k, fun w T => (decode_any s w T hs).mono ?_⟩
    rintro e w' ⟨hb, hD⟩
    rw [hR] at hD
    exact ⟨hD, hb⟩
  | good p r =>
    obtain ⟨t1, _, t3, _⟩ := text_back hR
    cases hok : (decide ((tRequest (⟨p, 0, 0⟩, false)).2.1.done = 0) && !(tRequest (⟨p, 0, 0⟩, false)).2.2) with
    | false =>
      refine .inl ⟨173, by omega, fun w T => (decode_any s w T hs).mono ?_⟩
      rintro e w' ⟨hb, hD⟩
      rw [hR] at hD
      have hD : DOk (tRequest (⟨p, 0, 0⟩, false)) r w e w' := hD
      unfold DOk at hD
      rw [if_neg (by rw [hok]; exact Bool.false_ne_true)] at hD
      exact ⟨hD, hb⟩
    | true =>
      have hok2 := hok
      rw [Bool.and_eq_true, decide_eq_true_eq, Bool.not_eq_true'] at hok2
      obtain ⟨d1, d2⟩ := hok2
      obtain ⟨q1, _⟩ := req_strict p d1 d2
      have hpl : p.length ≤ 1048576 := by omega
      obtain ⟨g1, g2⟩ := request_gd (⟨p, 0, 0⟩, false) (by show p.length ≤ _; omega) (done_err d1) d2
      refine .inr ⟨(tRequest (⟨p, 0, 0⟩, false)).1.1, (tRequest (⟨p, 0, 0⟩, false)).1.2, wrText p, r, fun w T => (decode_any s w T hs).mono ?_, fun w lo ul ue ua T hG => ?_, t1⟩
      · rintro e w' ⟨hb, hD⟩
        rw [hR] at hD
        have hD : DOk (tRequest (⟨p, 0, 0⟩, false)) r w e w' := hD
        unfold DOk at hD
        rw [if_pos hok] at hD
        exact ⟨hD, hb⟩
      · refine encode_yes T ⟨hG.ak, g1, fun h12 => ?_⟩ q1 hpl
        obtain ⟨_, _, _, _, h5, h6⟩ := hG
        exact ⟨h5.lower (Nat.zero_le _), h6, g2 h12⟩
/-- DecodeReply refuses s -/
def NoR (k : Int) (s : ByteArray) (c : Int) : Prop := ∀ w, Lay w → Calls Tryz.prog 12 #[.int .i64 k, .string s] w fun e w' => e = .returned (.tuple #[rp0, sv [], .int .i64 c]) ∧ Below w.heap.size w w'
def YesR (k : Int) (s : ByteArray) (x : Part) (l : List Part) (f r : List UInt8) : Prop :=
  (∀ w, Lay w → Calls Tryz.prog 12 #[.int .i64 k, .string s] w fun e w' => (∃ uh ue up, e = .returned (.tuple #[rpV x uh ue up, sv r, .int .i64 0]) ∧ GotR w' w.heap.size x l uh ue up) ∧ Below w.heap.size w w') ∧
  (∀ w lo uh ue up, Lay w → GotR w lo x l uh ue up → Calls Tryz.prog 13 #[.int .i64 k, rpV x uh ue up] w fun e w' => e = .returned (.tuple #[sv f, .int .i64 0]) ∧ Below w.heap.size w w') ∧
  s.data.toList = f ++ r
theorem r_cases (k : Int) (s : ByteArray) (hs : s.size ≤ maxLen) : (∃ c, c ≠ 0 ∧ NoR k s c) ∨ ∃ x l f r, YesR k s x l f r := by
  cases hw : wi k 0 12 with
  | false => exact .inl ⟨170, by omega, fun w _ => decodeR_kind k hw s w⟩
  | true =>
    have hk := wi_iff.1 hw
    obtain ⟨K, rfl⟩ := Int.eq_ofNat_of_zero_le hk.1
    have hK : K ≤ 12 := by omega
    cases hR : rdText s.data.toList 1048576 with
    | bad j =>
      refine .inl ⟨unfr j, unfr_ne j, fun w T => (decodeR_any K hK s w T hs).mono ?_⟩
      rintro e w' ⟨hb, hD⟩
      rw [hR] at hD
      exact ⟨hD, hb⟩
    | good p r =>
      obtain ⟨t1, _, t3, _⟩ := text_back hR
      cases hok : (decide ((tReply K (⟨p, 0, 0⟩, false)).2.1.done = 0) && !(tReply K (⟨p, 0, 0⟩, false)).2.2) with
      | false =>
        refine .inl ⟨173, by omega, fun w T => (decodeR_any K hK s w T hs).mono ?_⟩
        rintro e w' ⟨hb, hD⟩
        rw [hR] at hD
        have hD : DOkR (tReply K (⟨p, 0, 0⟩, false)) r w e w' := hD
        unfold DOkR at hD
        rw [if_neg (by rw [hok]; exact Bool.false_ne_true)] at hD
        exact ⟨hD, hb⟩
      | true =>
        have hok2 := hok
        rw [Bool.and_eq_true, decide_eq_true_eq, Bool.not_eq_true'] at hok2
        obtain ⟨d1, d2⟩ := hok2
        have q1 := reply_strict K p d1 d2
        have hpl : p.length ≤ 1048576 := by omega
        obtain ⟨g1, g2⟩ := reply_gr K (⟨p, 0, 0⟩, false) (by show p.length ≤ _; omega) (done_err d1) d2
        refine .inr ⟨(tReply K (⟨p, 0, 0⟩, false)).1.1, (tReply K (⟨p, 0, 0⟩, false)).1.2, wrText p, r, fun w T => (decodeR_any K hK s w T hs).mono ?_, fun w lo uh ue up T hG => ?_, t1⟩
        · rintro e w' ⟨hb, hD⟩
          rw [hR] at hD
          have hD : DOkR (tReply K (⟨p, 0, 0⟩, false)) r w e w' := hD
          unfold DOkR at hD
          rw [if_pos hok] at hD
          exact ⟨hD, hb⟩
        · refine encodeReply_yes T hK ⟨hG.ap, g1, fun h12 h0 => ?_⟩ q1 hpl
          obtain ⟨_, _, _, _, h5, h6⟩ := hG
          exact ⟨h5.mono (Nat.zero_le _) (Nat.le_refl _), h6, g2 h12 h0⟩
theorem fr_add {s : ByteArray} {f r : List UInt8} (h : s.data.toList = f ++ r) (hs : s.size ≤ maxLen) (w : World) : (binOp .add 9 (sv f) (sv r)).run Tryz.prog w = .ok (.string s) w := by
  have hl : f.length + r.length ≤ 9223372036854775807 := by
    have := congrArg List.length h
    rw [data_length, List.length_append] at this
    unfold maxLen at hs
    omega
  rw [add_sv _ _ _ _ hl, ← h, sv_of]
set_option maxRecDepth 100000 in
set_option maxHeartbeats 4000000 in
theorem strict_nn (k : Int) (s : ByteArray) (_hs : s.size ≤ maxLen) (w : World) (T : Lay w) (c : Int) (hc0 : c ≠ 0) (hD : NoD s c) (c2 : Int) (hc2 : c2 ≠ 0) (hR : NoR k s c2) : Calls Tryz.prog 3 #[.int .i64 k, .string s] w fun e w' => e = .returned (.bool true) ∧ Below w.heap.size w w' := by
  have hT := T.lt
  have i1 := known17_any w T
  have HT := hid T
  have HR := hid hR
  have hc2b : (c2 == 0) = false := by simp [hc2]
  clear hR hc2
  have HD := hid hD
  have hc : (c == 0) = false := by simp [hc0]
  clear T hD hc0
  go_enter Tryz.func3, Tryz.ntmps3
  go_wp2_with (first
    | (go_at_call 9; refine i1.mono ?_; rintro e w1 ⟨rfl, h1⟩; have i2 := HD.out w1 (HT.out.below h1 hT); have B1 := hid h1; clear h1)
    | (go_at_call 10; refine i2.mono ?_; rintro e w2 ⟨rfl, h2⟩; have B2 := hid ((B1.out.trans (h2.mono B1.out.size)).trans (((Below.refl w2.heap.size w2).alloc (Nat.le_refl _) (.cells #[.int .i64 0, .int .i64 0, .int .i64 0, .int .i64 0, .slice none 0 0, .slice none 0 0, .slice none 0 0] 27)).mono (Nat.le_trans B1.out.size h2.size))); clear h2)
    | (go_at_call 12; fail))
  go_at_call 12
  refine (HR.out _ (HT.out.below B2.out hT)).mono ?_
  rintro e w4 ⟨rfl, h4⟩
  have B4 := hid ((B2.out.trans (h4.mono B2.out.size)).trans (((Below.refl w4.heap.size w4).alloc (Nat.le_refl _) (.cells #[.int .i64 0, .int .i64 0, .int .i64 0, .int .i64 0, .string ⟨#[]⟩, .slice none 0 0, .slice none 0 0, .slice none 0 0] 36)).mono (Nat.le_trans B2.out.size h4.size)))
  clear h4
  go_wp2
  go_ret
  exact ⟨rfl, B4.out⟩
set_option maxRecDepth 100000 in
set_option maxHeartbeats 4000000 in
theorem strict_ny (k : Int) (s : ByteArray) (hs : s.size ≤ maxLen) (w : World) (T : Lay w) (c : Int) (hc0 : c ≠ 0) (hD : NoD s c) (y : Part) (m : List Part) (f2 r2 : List UInt8) (hR : YesR k s y m f2 r2) : Calls Tryz.prog 3 #[.int .i64 k, .string s] w fun e w' => e = .returned (.bool true) ∧ Below w.heap.size w w' := by
  have hT := T.lt
  have i1 := known17_any w T
  have HT := hid T
  have HR := hid hR.1
  have HS := hid hR.2.1
  have hadd2 := fun w => fr_add hR.2.2 hs w
  clear hR
  have HD := hid hD
  have hc : (c == 0) = false := by simp [hc0]
  clear T hD hc0
  go_enter Tryz.func3, Tryz.ntmps3
  go_wp2_with (first
    | (go_at_call 9; refine i1.mono ?_; rintro e w1 ⟨rfl, h1⟩; have i2 := HD.out w1 (HT.out.below h1 hT); have B1 := hid h1; clear h1)
    | (go_at_call 10; refine i2.mono ?_; rintro e w2 ⟨rfl, h2⟩; have B2 := hid ((B1.out.trans (h2.mono B1.out.size)).trans (((Below.refl w2.heap.size w2).alloc (Nat.le_refl _) (.cells #[.int .i64 0, .int .i64 0, .int .i64 0, .int .i64 0, .slice none 0 0, .slice none 0 0, .slice none 0 0] 27)).mono (Nat.le_trans B1.out.size h2.size))); clear h2)
    | (go_at_call 12; fail))
  go_at_call 12
  refine (HR.out _ (HT.out.below B2.out hT)).mono ?_
  rintro e w4 ⟨⟨uh, ue, up, rfl, hG⟩, h4⟩
  obtain ⟨a4, n4, e1, _⟩ := id hG.1
  obtain ⟨a5, n5, e2, _⟩ := id hG.2.2.1
  obtain ⟨a6, n6, e3⟩ := hG.2.2.2.2.1.shape
  subst e1 e2 e3
  have b4 := (Below.refl w4.heap.size w4).alloc (Nat.le_refl _) (.cells #[.int .i64 y.status, .int .i64 y.size, .int .i64 y.a, .int .i64 y.b, .string ⟨y.root.toArray⟩, .slice a4 y.hs.length n4, .slice a5 y.ent.length n5, .slice a6 m.length n6] 36)
  have B4 := hid ((B2.out.trans (h4.mono B2.out.size)).trans (b4.mono (Nat.le_trans B2.out.size h4.size)))
  have i5 := HS.out _ _ _ _ _ (HT.out.below B4.out hT) (hG.bl b4)
  rw [rpV, show sv y.root = .string ⟨y.root.toArray⟩ from rfl] at i5 ⊢
  clear hG b4 h4
  go_wp2_with (go_at_call 13; refine i5.mono ?_; rintro e w6 ⟨rfl, h6⟩; have B6 := hid (B4.out.trans (h6.mono B4.out.size)); clear h6)
  go_ret
  exact ⟨rfl, B6.out⟩
set_option maxRecDepth 100000 in
set_option maxHeartbeats 4000000 in
theorem strict_yn (k : Int) (s : ByteArray) (hs : s.size ≤ maxLen) (w : World) (T : Lay w) (x : Ask) (l : List Ask) (f r : List UInt8) (hD : YesD s x l f r) (c2 : Int) (hc2 : c2 ≠ 0) (hR : NoR k s c2) : Calls Tryz.prog 3 #[.int .i64 k, .string s] w fun e w' => e = .returned (.bool true) ∧ Below w.heap.size w w' := by
  have hT := T.lt
  have i1 := known17_any w T
  have HT := hid T
  have HR := hid hR
  have hc2b : (c2 == 0) = false := by simp [hc2]
  clear hR hc2
  have HD := hid hD.1
  have HE := hid hD.2.1
  have hadd := fun w => fr_add hD.2.2 hs w
  clear T hD
  go_enter Tryz.func3, Tryz.ntmps3
  go_wp2_with (first
    | (go_at_call 9; refine i1.mono ?_; rintro e w1 ⟨rfl, h1⟩; have i2 := HD.out w1 (HT.out.below h1 hT); have B1 := hid h1; clear h1)
    | (go_at_call 10; fail))
  go_at_call 10
  refine i2.mono ?_
  rintro e w2 ⟨⟨ul, ue, ua, rfl, hG⟩, h2⟩
  obtain ⟨a1, n1, e1, _⟩ := id hG.1
  obtain ⟨a2, n2, e2, _⟩ := id hG.2.2.1
  obtain ⟨a3, n3, e3⟩ := hG.2.2.2.2.1.shape
  subst e1 e2 e3
  have b2 := (Below.refl w2.heap.size w2).alloc (Nat.le_refl _) (.cells #[.int .i64 x.kind, .int .i64 x.a, .int .i64 x.b, .int .i64 x.size, .slice a1 x.list.length n1, .slice a2 x.ent.length n2, .slice a3 l.length n3] 27)
  have B2' := hid ((B1.out.trans (h2.mono B1.out.size)).trans (b2.mono (Nat.le_trans B1.out.size h2.size)))
  have i3 := HE.out _ _ _ _ _ (HT.out.below B2'.out hT) (hG.bl b2)
  rw [akV] at i3 ⊢
  clear hG b2 h2 i1 i2
  go_wp2_with (first
    | (go_at_call 11; refine i3.mono ?_; rintro e w3 ⟨rfl, h3⟩; have B2 := hid (B2'.out.trans (h3.mono B2'.out.size)); clear h3)
    | (go_at_call 12; fail))
  go_at_call 12
  refine (HR.out _ (HT.out.below B2.out hT)).mono ?_
  rintro e w4 ⟨rfl, h4⟩
  have B4 := hid ((B2.out.trans (h4.mono B2.out.size)).trans (((Below.refl w4.heap.size w4).alloc (Nat.le_refl _) (.cells #[.int .i64 0, .int .i64 0, .int .i64 0, .int .i64 0, .string ⟨#[]⟩, .slice none 0 0, .slice none 0 0, .slice none 0 0] 36)).mono (Nat.le_trans B2.out.size h4.size)))
  clear h4
  go_wp2
  go_ret
  exact ⟨rfl, B4.out⟩
set_option maxRecDepth 100000 in
set_option maxHeartbeats 4000000 in
theorem strict_yy (k : Int) (s : ByteArray) (hs : s.size ≤ maxLen) (w : World) (T : Lay w) (x : Ask) (l : List Ask) (f r : List UInt8) (hD : YesD s x l f r) (y : Part) (m : List Part) (f2 r2 : List UInt8) (hR : YesR k s y m f2 r2) : Calls Tryz.prog 3 #[.int .i64 k, .string s] w fun e w' => e = .returned (.bool true) ∧ Below w.heap.size w w' := by
  have hT := T.lt
  have i1 := known17_any w T
  have HT := hid T
  have HR := hid hR.1
  have HS := hid hR.2.1
  have hadd2 := fun w => fr_add hR.2.2 hs w
  clear hR
  have HD := hid hD.1
  have HE := hid hD.2.1
  have hadd := fun w => fr_add hD.2.2 hs w
  clear T hD
  go_enter Tryz.func3, Tryz.ntmps3
  go_wp2_with (first
    | (go_at_call 9; refine i1.mono ?_; rintro e w1 ⟨rfl, h1⟩; have i2 := HD.out w1 (HT.out.below h1 hT); have B1 := hid h1; clear h1)
    | (go_at_call 10; fail))
  go_at_call 10
  refine i2.mono ?_
  rintro e w2 ⟨⟨ul, ue, ua, rfl, hG⟩, h2⟩
  obtain ⟨a1, n1, e1, _⟩ := id hG.1
  obtain ⟨a2, n2, e2, _⟩ := id hG.2.2.1
  obtain ⟨a3, n3, e3⟩ := hG.2.2.2.2.1.shape
  subst e1 e2 e3
  have b2 := (Below.refl w2.heap.size w2).alloc (Nat.le_refl _) (.cells #[.int .i64 x.kind, .int .i64 x.a, .int .i64 x.b, .int .i64 x.size, .slice a1 x.list.length n1, .slice a2 x.ent.length n2, .slice a3 l.length n3] 27)
  have B2' := hid ((B1.out.trans (h2.mono B1.out.size)).trans (b2.mono (Nat.le_trans B1.out.size h2.size)))
  have i3 := HE.out _ _ _ _ _ (HT.out.below B2'.out hT) (hG.bl b2)
  rw [akV] at i3 ⊢
  clear hG b2 h2 i1 i2
  go_wp2_with (first
    | (go_at_call 11; refine i3.mono ?_; rintro e w3 ⟨rfl, h3⟩; have B2 := hid (B2'.out.trans (h3.mono B2'.out.size)); clear h3)
    | (go_at_call 12; fail))
  go_at_call 12
  refine (HR.out _ (HT.out.below B2.out hT)).mono ?_
  rintro e w4 ⟨⟨uh, ue, up, rfl, hG⟩, h4⟩
  obtain ⟨a4, n4, e1, _⟩ := id hG.1
  obtain ⟨a5, n5, e2, _⟩ := id hG.2.2.1
  obtain ⟨a6, n6, e3⟩ := hG.2.2.2.2.1.shape
  subst e1 e2 e3
  have b4 := (Below.refl w4.heap.size w4).alloc (Nat.le_refl _) (.cells #[.int .i64 y.status, .int .i64 y.size, .int .i64 y.a, .int .i64 y.b, .string ⟨y.root.toArray⟩, .slice a4 y.hs.length n4, .slice a5 y.ent.length n5, .slice a6 m.length n6] 36)
  have B4 := hid ((B2.out.trans (h4.mono B2.out.size)).trans (b4.mono (Nat.le_trans B2.out.size h4.size)))
  have i5 := HS.out _ _ _ _ _ (HT.out.below B4.out hT) (hG.bl b4)
  rw [rpV, show sv y.root = .string ⟨y.root.toArray⟩ from rfl] at i5 ⊢
  clear hG b4 h4
  go_wp2_with (go_at_call 13; refine i5.mono ?_; rintro e w6 ⟨rfl, h6⟩; have B6 := hid (B4.out.trans (h6.mono B4.out.size)); clear h6)
  go_ret
  exact ⟨rfl, B6.out⟩
theorem strict17_any (k : Int) (s : ByteArray) (hs : s.size ≤ maxLen) (w : World) (T : Lay w) : Calls Tryz.prog 3 #[.int .i64 k, .string s] w fun e w' => e = .returned (.bool true) ∧ Below w.heap.size w w' := by
  rcases d_cases s hs with ⟨c, h1, h2⟩ | ⟨x, l, f, r, h2⟩
  · rcases r_cases k s hs with ⟨c2, g1, g2⟩ | ⟨y, m, f2, r2, g2⟩
    · exact strict_nn k s hs w T c h1 h2 c2 g1 g2
    · exact strict_ny k s hs w T c h1 h2 y m f2 r2 g2
  · rcases r_cases k s hs with ⟨c2, g1, g2⟩ | ⟨y, m, f2, r2, g2⟩
    · exact strict_yn k s hs w T x l f r h2 c2 g1 g2
    · exact strict_yy k s hs w T x l f r h2 y m f2 r2 g2
end Msg
end Go.Proofs.YtdhnjajloidohaaGreatDoor
