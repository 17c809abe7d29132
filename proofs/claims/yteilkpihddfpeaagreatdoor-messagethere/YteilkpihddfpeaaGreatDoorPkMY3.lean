import Derived.Test.YteilkpihddfpeaaGreatDoorPkMVA3
import Derived.Test.YteilkpihddfpeaaGreatDoorPkMY1
import Derived.Test.YteilkpihddfpeaaGreatDoorPkMX1
import Derived.Test.YteilkpihddfpeaaGreatDoorPkMZ1
namespace Go.Proofs.YteilkpihddfpeaaGreatDoor
open Go.RowKit Cod
namespace Msg

theorem lsPs_or (l : List Part) : ∀ (fs : List Fr) (l0 : List Part), lsPs l fs l0 = l ∨ lsPs l fs l0 = l0
  | [], l0 => .inr rfl
  | g :: fs, l0 => by
    have h := lsPs_or l fs (lsP l g l0)
    have hc : lsPs l (g :: fs) l0 = lsPs l fs (lsP l g l0) := rfl
    rw [hc]
    rcases h with h | h
    · exact .inl h
    · rw [h]
      cases g <;> first | exact .inl rfl | exact .inr rfl
theorem part_n {x : Part} {acc out : List UInt8} (h : lPart x (.ok acc, false) = (.ok out, false)) : x.n = 0 := by
  rw [lPart_eq] at h
  have h2 := (Prod.mk.inj h).2
  rw [Bool.or_eq_false_iff, Bool.not_eq_false'] at h2
  obtain ⟨_, _, _, _, _, _, _, h8⟩ := wholeP_parts h2.2
  rw [h8, pT]
  split
  · rw [fmF]; split <;> rfl
  · rfl
theorem parts_flat : ∀ (l : List Part) (acc out : List UInt8), l.foldl (fun s x => lPart x s) (.ok acc, false) = (.ok out, false) → ∀ y ∈ l, y.n = 0
  | [], _, _, _, y, hy => by cases hy
  | x :: l, acc, out, h, y, hy => by
    have h : l.foldl (fun s x => lPart x s) (lPart x (.ok acc, false)) = (.ok out, false) := h
    obtain ⟨m, hm⟩ := (abs_partsl l).mid h
    rw [hm] at h
    rcases List.mem_cons.1 hy with rfl | hy
    · exact part_n hm
    · exact parts_flat l m out h y hy
theorem reply_flat (K : Nat) (x : Part) (l : List Part) (hn : x.n = l.length) (p : List UInt8) (h : lReply (K : Int) x l (.ok [], false) = (.ok p, false)) : ∀ y ∈ l, y.n = 0 := fun y hy => by
  rw [lReply_eq] at h
  have h2 := (Prod.mk.inj h).2
  rw [Bool.or_eq_false_iff, Bool.not_eq_false'] at h2
  obtain ⟨_, _, _, _, _, _, _, h8⟩ := wholeP_parts h2.2
  have hrS : rS K x l (.ok [], false) = (.ok p, false) := Prod.ext (Prod.mk.inj h).1 h2.1
  by_cases hd : isDn x.status (leastOf (K : Int)) = true
  · rw [rT, if_pos hd] at h8
    by_cases h12 : K = 12
    · subst h12
      rw [rS, if_pos hd] at hrS
      have hrS : lParts l (lMark x.status (leastOf ((12 : Nat) : Int)) 8 (lMark ((12 : Nat) : Int) ((12 : Nat) : Int) ((12 : Nat) : Int) (.ok [], false))) = (.ok p, false) := hrS
      rw [lParts] at hrS
      split at hrS
      · obtain ⟨m, hm⟩ := (abs_partsl l).mid hrS
        rw [hm] at hrS
        exact parts_flat l m p hrS y hy
      · cases (Prod.mk.inj hrS).2
    · exfalso
      have : (setRs x (rflds K) (Part.of 0)).n = 0 := by
        match K, h12 with
        | 0, _ | 1, _ | 2, _ | 3, _ | 4, _ | 5, _ | 6, _ | 7, _ | 8, _ | 9, _ | 10, _ | 11, _ => rfl
        | n + 13, _ => rfl
      rw [h8, this] at hn
      cases l with
      | nil => cases hy
      | cons a b => simp at hn
  · exfalso
    rw [rT, if_neg hd] at h8
    rw [h8] at hn
    have hn : 0 = l.length := hn
    cases l with
    | nil => cases hy
    | cons a b => simp at hn
/-- what comes back is what was laid down, parts and all -/
theorem reply_whole (K : Nat) (x : Part) (l : List Part) (hn : x.n = l.length) (p : List UInt8) (h : lReply (K : Int) x l (.ok [], false) = (.ok p, false)) :
    ∃ k, tReply K (⟨p, 0, 0⟩, false) = ((x, if x.status = 0 then lsPs l (rflds K) [] else []), (⟨[], k, 0⟩, false)) := ⟨_, reply_there K x l hn p h⟩
/-- to another kind it is none -/
theorem reply_other (K o : Nat) (ho : o ≠ K) (p : List UInt8) (q : PR) (hq : tReply K (⟨p, 0, 0⟩, false) = q) (h : q.2.2 = false) : (tReply o (⟨p, 0, 0⟩, false)).2.2 = true := by
  subst hq
  have hw : wi ((tMark (K : Int) (K : Int) (⟨p, 0, 0⟩, false)).1 : Int) (K : Int) (K : Int) = true := by
    cases hw : wi ((tMark (K : Int) (K : Int) (⟨p, 0, 0⟩, false)).1 : Int) (K : Int) (K : Int) with
    | true => rfl
    | false =>
      rw [tReply, if_neg (by rw [hw]; exact Bool.false_ne_true)] at h
      have := mark_ok h
      rw [hw] at this
      cases this
  have hk : ((tMark (K : Int) (K : Int) (⟨p, 0, 0⟩, false)).1 : Int) = (K : Int) := by rw [wi_iff] at hw; omega
  have hv : (tMark (o : Int) (o : Int) (⟨p, 0, 0⟩, false)).1 = (tMark (K : Int) (K : Int) (⟨p, 0, 0⟩, false)).1 := rfl
  have hwo : wi ((tMark (o : Int) (o : Int) (⟨p, 0, 0⟩, false)).1 : Int) (o : Int) (o : Int) = false := by
    rw [hv, hk]
    exact decide_eq_false (by omega)
  rw [tReply, if_neg (by rw [hwo]; exact Bool.false_ne_true)]
  show (false || !wi ((tMark (o : Int) (o : Int) (⟨p, 0, 0⟩, false)).1 : Int) (o : Int) (o : Int)) = true
  rw [hwo]; rfl
/-- a reply that was laid down as f: what DecodeReply says of f -/
structure There (k : Int) (x : Part) (l : List Part) (f : List UInt8) : Prop where
  ne : f ≠ []
  len : f.length ≤ 1048600
  back : ∀ (r : List UInt8) (s : ByteArray) w, Lay w → s.data.toList = f ++ r → s.size ≤ maxLen → Calls Tryz.prog 7 #[.int .i64 k, .string s] w fun e w' => (∃ uh ue up, e = .returned (.tuple #[rpV x uh ue up, sv r, .int .i64 0]) ∧ GotR w' w.heap.size x l uh ue up) ∧ Below w.heap.size w w'
  short : ∀ (c : Nat) (s : ByteArray), c < f.length → s.data.toList = f.take c → NoR k s 172
  oth : ∀ (o : Int) (s : ByteArray), 0 ≤ o → o ≤ 12 → o ≠ k → s.data.toList = f → NoR o s 173
  flat : ∀ y ∈ l, y.n = 0
theorem there_of (K : Nat) (hK : K ≤ 12) (x : Part) (l : List Part) (hn : x.n = l.length) (p : List UInt8) (hp : p.length ≤ 1048576) (h : lReply (K : Int) x l (.ok [], false) = (.ok p, false)) : There (K : Int) x l (wrText p) := by
  have hd : (digs p.length).length ≤ 9 := digs_len9 (by omega)
  have hd0 := digs_pos p.length
  have hl : (wrText p).length = (digs p.length).length + p.length := by rw [wrText, List.length_append]
  have ht : ∀ b, rdText (wrText p ++ b) 1048576 = .good p b := fun b => text_there (by rw [top]; omega) (by omega) b
  have hfl := reply_flat K x l hn p h
  obtain ⟨k, hT⟩ := reply_whole K x l hn p h
  have hl' : (if x.status = 0 then lsPs l (rflds K) [] else []) = l ∨ ((if x.status = 0 then lsPs l (rflds K) [] else []) : List Part) = [] := by
    split
    · exact lsPs_or l (rflds K) []
    · exact .inr rfl
  generalize (if x.status = 0 then lsPs l (rflds K) [] else []) = l' at *
  refine ⟨fun e => ?_, by omega, fun r s w T hs hz => ?_, fun c s hc hs => ?_, fun o s h0 h12 hok hs => ?_, hfl⟩
  · have := congrArg List.length e
    rw [hl, List.length_nil] at this
    omega
  · refine (decodeR_any K hK s w T hz).mono ?_
    rintro e w' ⟨hb, hD⟩
    rw [hs, ht] at hD
    have hD : DOkR (tReply K (⟨p, 0, 0⟩, false)) r w e w' := hD
    rw [hT, DOkR, if_pos (by rfl)] at hD
    obtain ⟨ul, ue, ua, e1, e2⟩ := hD
    refine ⟨⟨ul, ue, ua, e1, ?_⟩, hb⟩
    have h6 := e2.2.2.2.2.2
    have h6 : x.n = l'.length := h6
    rcases hl' with rfl | rfl
    · exact e2
    · have : l = [] := by
        cases l with
        | nil => rfl
        | cons a b => rw [h6] at hn; simp at hn
      rw [this]
      exact e2
  · intro w T
    have hz : s.size ≤ maxLen := by
      rw [← data_length, hs, List.length_take]
      unfold maxLen
      omega
    refine (decodeR_any K hK s w T hz).mono ?_
    rintro e w' ⟨hb, hD⟩
    have hR : rdText s.data.toList 1048576 = .bad 21 := by
      rw [hs]
      refine (pf_text 1048576).short _ _ _ (ht []) _ ((wrText p).drop c) (List.take_append_drop _ _).symm (fun e => ?_)
      have := congrArg List.length e
      rw [List.length_drop, List.length_nil] at this
      omega
    rw [hR] at hD
    exact ⟨hD, hb⟩
  · intro w T
    obtain ⟨O, rfl⟩ := Int.eq_ofNat_of_zero_le h0
    have hz : s.size ≤ maxLen := by
      rw [← data_length, hs, hl]
      unfold maxLen
      omega
    refine (decodeR_any O (by omega) s w T hz).mono ?_
    rintro e w' ⟨hb, hD⟩
    have ht0 := ht []
    rw [List.append_nil] at ht0
    rw [hs, ht0] at hD
    have hD : DOkR (tReply O (⟨p, 0, 0⟩, false)) [] w e w' := hD
    have := reply_other K O (by omega) p _ hT rfl
    rw [DOkR, if_neg (by rw [this, Bool.not_true, Bool.and_false]; exact Bool.false_ne_true)] at hD
    exact ⟨hD, hb⟩
theorem enc_cases (k : Int) (x : Part) (l : List Part) (hn : x.n = l.length) : (∃ c, c ≠ 0 ∧ encO k x l = .tuple #[sv [], .int .i64 c]) ∨ ∃ f, encO k x l = .tuple #[sv f, .int .i64 0] ∧ 0 ≤ k ∧ k ≤ 12 ∧ There k x l f := by
  rw [encO]
  split
  · rename_i hk
    have hk := wi_iff.1 hk
    obtain ⟨K, rfl⟩ := Int.eq_ofNat_of_zero_le hk.1
    have hz := nz_reply (K : Int) x l _ nz_nil
    rw [frO]
    split
    · rename_i hg
      obtain ⟨p, hp⟩ := ws_some hz hg
      rw [hp]
      show (∃ c, c ≠ 0 ∧ (if 1048576 < p.length then _ else _) = _) ∨ _
      by_cases hl : 1048576 < p.length
      · exact .inl ⟨174, by omega, if_pos hl⟩
      · exact .inr ⟨wrText p, if_neg hl, by omega, by omega, there_of K (by omega) x l hn p (by omega) hp⟩
    · exact .inl ⟨171, by omega, rfl⟩
  · exact .inl ⟨170, by omega, rfl⟩
end Msg
end Go.Proofs.YteilkpihddfpeaaGreatDoor

namespace Go.Proofs.YteilkpihddfpeaaGreatDoor
open Go.RowKit Cod
namespace Msg

theorem Rq0.bl {w w' : World} {x : Part} {l : List Part} {uh ue up : Value} (h : Rq0 w x l uh ue up) (hb : Below w.heap.size w w') : Rq0 w' x l uh ue up :=
  ⟨(h.ak.bl hb).mono hb.size, h.ft, (h.ls.bl hb).mono hb.size, h.ln, h.lf⟩
theorem row_cells {w : World} {A : Nat} {x : Part} {uh ue up : Value} (r : w.heap[A]? = some (.cells (rpO x uh ue up) 26 (0, 0))) :
    w.cell? ⟨A, 0, none⟩ = some (.int .i64 x.status) ∧ w.cell? ⟨A, 1, none⟩ = some (.int .i64 x.size) ∧ w.cell? ⟨A, 2, none⟩ = some (.int .i64 x.a) ∧ w.cell? ⟨A, 3, none⟩ = some (.int .i64 x.b) ∧ w.cell? ⟨A, 4, none⟩ = some (.string ⟨x.root.toArray⟩) ∧ w.cell? ⟨A, 5, none⟩ = some uh ∧ w.cell? ⟨A, 6, none⟩ = some ue ∧ w.cell? ⟨A, 7, none⟩ = some up := by
  refine ⟨?_, ?_, ?_, ?_, ?_, ?_, ?_, ?_⟩ <;> (rw [cell_of_row _ _ _ _ _ _ r]; rfl)
set_option maxRecDepth 100000 in
set_option maxHeartbeats 8000000 in
theorem there_no (k : Int) {x : Part} {l : List Part} {uh ue up : Value} (bh : ByteArray) (cut : Int) (w : World) (T : Lay w) (h : Rq0 w x l uh ue up) (c : Int) (hc : c ≠ 0) (he : encO k x l = .tuple #[sv [], .int .i64 c]) :
    Calls Tryz.prog 3 #[.int .i64 k, .agg (rpO x uh ue up), .string bh, .int .i64 cut] w fun e w' => e = .returned (.bool true) ∧ Below w.heap.size w w' := by
  obtain ⟨p1, q1, rfl, _⟩ := id h.ak.s1
  obtain ⟨p2, q2, rfl, _⟩ := id h.ak.s2
  obtain ⟨p3, q3, rfl⟩ := id h.ak.s3
  have hT := T.lt
  have bA := (Below.refl w.heap.size w).alloc (Nat.le_refl _) (.cells (rpO x (.slice p1 x.hs.length q1) (.slice p2 x.ent.length q2) (.slice p3 x.n q3)) 26)
  have rA := heap_alloc_new w (.cells (rpO x (.slice p1 x.hs.length q1) (.slice p2 x.ent.length q2) (.slice p3 x.n q3)) 26)
  have zA := size_alloc w (.cells (rpO x (.slice p1 x.hs.length q1) (.slice p2 x.ent.length q2) (.slice p3 x.n q3)) 26)
  have i1 := known17_any _ (T.below bA hT)
  have H := hid h
  have HT := hid T
  clear h T
  go_enter Tryz.func3, Tryz.ntmps3
  go_wp2_with (go_at_call 5; fail)
  go_at_call 5
  refine i1.mono ?_
  rintro e w1 ⟨rfl, g1⟩
  have r1 := (g1.block _ (by omega)).trans rA
  have b1 : Below w.heap.size w w1 := bA.trans (g1.mono (by omega))
  have z1 : w.heap.size < w1.heap.size := by have := g1.size; omega
  obtain ⟨c0, c1, c2, c3, c4, c5, c6, c7⟩ := row_cells r1
  have i2 := encodeReply_any k (HT.out.below b1 hT) (H.out.bl b1)
  rw [he, rpV, show sv x.root = .string ⟨x.root.toArray⟩ from rfl] at i2
  have B1 := hid b1
  have R1 := hid r1
  clear g1 b1 r1 bA rA zA i1
  have hcb : (c == 0) = false := by simp [hc]
  rw [show sv [] = .string ⟨#[]⟩ from rfl] at i2
  go_wp2_with (go_at_call 6; refine i2.mono ?_; rintro e w2 ⟨rfl, g2⟩; have B2 := hid (B1.out.trans (g2.mono B1.out.size)); clear g2)
  go_ret
  exact ⟨rfl, B2.out⟩
set_option maxRecDepth 100000 in
set_option maxHeartbeats 8000000 in
theorem there_yes (k : Int) {x : Part} {l : List Part} {uh ue up : Value} (bh : ByteArray) (cut : Int) (hc1 : -9223372036854775808 ≤ cut) (hc2 : cut ≤ 9223372036854775807) (hbh : bh.size ≤ 4611686018427380000) (w : World) (T : Lay w) (h : Rq0 w x l uh ue up) (hlx : x.hs.length ≤ maxLen ∧ x.ent.length ≤ maxLen ∧ l.length ≤ maxLen) (hly : ∀ y ∈ l, y.hs.length ≤ maxLen ∧ y.ent.length ≤ maxLen) (f : List UInt8) (hk0 : 0 ≤ k) (hk1 : k ≤ 12) (he : encO k x l = .tuple #[sv f, .int .i64 0]) (ht : There k x l f) :
    Calls Tryz.prog 3 #[.int .i64 k, .agg (rpO x uh ue up), .string bh, .int .i64 cut] w fun e w' => e = .returned (.bool true) ∧ Below w.heap.size w w' := by
  obtain ⟨p1, q1, rfl, _⟩ := id h.ak.s1
  obtain ⟨p2, q2, rfl, _⟩ := id h.ak.s2
  obtain ⟨p3, q3, rfl⟩ := id h.ak.s3
  have hT := T.lt
  have bA := (Below.refl w.heap.size w).alloc (Nat.le_refl _) (.cells (rpO x (.slice p1 x.hs.length q1) (.slice p2 x.ent.length q2) (.slice p3 x.n q3)) 26)
  have rA := heap_alloc_new w (.cells (rpO x (.slice p1 x.hs.length q1) (.slice p2 x.ent.length q2) (.slice p3 x.n q3)) 26)
  have zA := size_alloc w (.cells (rpO x (.slice p1 x.hs.length q1) (.slice p2 x.ent.length q2) (.slice p3 x.n q3)) 26)
  have i1 := known17_any _ (T.below bA hT)
  have H := hid h
  have HT := hid T
  clear h T
  go_enter Tryz.func3, Tryz.ntmps3
  go_wp2_with (go_at_call 5; fail)
  go_at_call 5
  refine i1.mono ?_
  rintro e w1 ⟨rfl, g1⟩
  have r1 := (g1.block _ (by omega)).trans rA
  have b1 : Below w.heap.size w w1 := bA.trans (g1.mono (by omega))
  have z1 : w.heap.size < w1.heap.size := by have := g1.size; omega
  obtain ⟨c0, c1, c2, c3, c4, c5, c6, c7⟩ := row_cells r1
  have i2 := encodeReply_any k (HT.out.below b1 hT) (H.out.bl b1)
  rw [he, rpV, show sv x.root = .string ⟨x.root.toArray⟩ from rfl] at i2
  have B1 := hid b1
  have R1 := hid r1
  clear g1 b1 r1 bA rA zA i1
  obtain ⟨F, hF⟩ : ∃ F, Hid (sv f = .string F) := ⟨_, hid rfl⟩
  obtain ⟨hFd, hFz⟩ := str_eta17 hF.out
  rw [hF.out] at i2
  have hf0 : 0 < F.size := by
    rw [hFz]
    exact List.length_pos_iff.2 ht.ne
  have ne : F.toList.isEmpty = false := by rw [isEmpty_data, decide_eq_false (by omega)]
  have hfl := ht.len
  have hsum : F.size + bh.size ≤ 9223372036854775807 := by omega
  have hsum' : (F.size : Int) + (bh.size : Int) ≤ 9223372036854775807 := by omega
  have hsd : (F ++ bh).data.toList = f ++ bh.data.toList := by rw [app_data17, hFd]
  have hsz : (F ++ bh).size ≤ maxLen := by
    rw [← data_length, hsd, List.length_append, data_length]
    unfold maxLen
    omega
  have HTh := hid ht
  have HB := hid (fun w T => ht.back bh.data.toList (F ++ bh) w T hsd hsz)
  have yb : (bh.toList == bh.toList) = true := by simp
  have yb2 : (bh.toList != bh.toList) = false := by simp
  have HFd := hid hFd
  have HFz := hid hFz
  have HLX := hid hlx
  have HLY := hid hly
  have hpk := pk_nonneg cut (F.size : Int) (by omega)
  have hpl := pk_lt cut (F.size : Int) (by omega)
  obtain ⟨c, hcv⟩ : ∃ c : Nat, Hid (pk cut (F.size : Int) = (c : Int)) := ⟨(pk cut (F.size : Int)).toNat, by show _ = _; omega⟩
  have hc3 : c < F.size := by have := hcv.out; omega
  have i5 := fun w => pick17_any cut (F.size : Int) hc1 hc2 (by omega) (by omega) w
  rw [hcv.out] at i5
  obtain ⟨Z, hZ⟩ : ∃ Z, F.extract 0 c = Z := ⟨_, rfl⟩
  have hZd : Z.data.toList = f.take c := by rw [← hZ, Lib.extract_data, List.drop_zero, Nat.sub_zero, hFd]
  have HZ := hid (ht.short c Z (by omega) hZd)
  have b3 : (c : Int) ≤ (F.size : Int) := by omega
  have HO := hid (fun o a1 a2 a3 => ht.oth o F a1 a2 a3 hFd)
  have HK := hid (fun w T => ht.back [] F w T (by rw [hFd, List.append_nil]) (by unfold maxLen; omega))
  have hc3' : c ≤ F.size := by omega
  clear ht hFd hsd hsz hZd hlx hly hpk hpl hc1 hc2 hbh hF hFz hcv
  go_wp2_with (first
    | (go_at_call 6; refine i2.mono ?_; rintro e w2 ⟨rfl, g2⟩; have B2 := hid (B1.out.trans (g2.mono B1.out.size)); have R2 := hid ((g2.block _ z1).trans R1.out); have z2 : w.heap.size < w2.heap.size := (by have := g2.size; omega); clear g2)
    | (go_at_call 7; fail))
  go_at_call 7
  refine (HB.out w2 (HT.out.below B2.out hT)).mono ?_
  rintro e w3 ⟨⟨vh, ve, vp, rfl, hG⟩, g3⟩
  rw [sv_of, rpV, show sv x.root = .string ⟨x.root.toArray⟩ from rfl]
  obtain ⟨s1, t1, e1, _⟩ := id hG.1
  obtain ⟨s2, t2, e2, _⟩ := id hG.2.2.1
  obtain ⟨s3, t3, e3⟩ := id hG.2.2.2.2.1.shape
  subst e1 e2 e3
  have hln := H.out.ln
  rw [← hln] at hG ⊢
  have b4 := (Below.refl w3.heap.size w3).alloc (Nat.le_refl _) (.cells (rpO x (.slice s1 x.hs.length t1) (.slice s2 x.ent.length t2) (.slice s3 x.n t3)) 26)
  have r4 := heap_alloc_new w3 (.cells (rpO x (.slice s1 x.hs.length t1) (.slice s2 x.ent.length t2) (.slice s3 x.n t3)) 26)
  have z3 : w.heap.size < w3.heap.size := by have := g3.size; omega
  have R3 := (b4.block _ z3).trans ((g3.block _ z2).trans R2.out)
  obtain ⟨c0, c1, c2, c3, c4, c5, c6, c7⟩ := row_cells R3
  have bw3 : Below w.heap.size w w3 := B2.out.trans (g3.mono B2.out.size)
  have bw4 := bw3.trans (b4.mono (by omega))
  have G4 := hG.bl b4
  obtain ⟨k1, k2, k3, k4, k5, k6⟩ := G4
  have Q1 := H.out.bl bw4
  have hhi := b4.size
  have i4 := sameReply_yes (w := (w3.alloc (.cells (rpO x (.slice s1 x.hs.length t1) (.slice s2 x.ent.length t2) (.slice s3 x.n t3)) 26))) (hi := (w3.alloc (.cells (rpO x (.slice s1 x.hs.length t1) (.slice s2 x.ent.length t2) (.slice s3 x.n t3)) 26)).heap.size) (p3 := s3) (q3 := t3) (p4 := p3) (q4 := q3) hln k5.pq Q1.ls (Nat.le_refl _) (fun y hy => ⟨HTh.out.flat y hy, HLY.out y hy⟩) HLX.out.2.2 k1 k3 Q1.ak.s1 Q1.ak.s2 HLX.out.1 HLX.out.2.1
  have B4 := hid bw4
  clear hG g3 b4 r4 R3 bw3 bw4 k1 k2 k3 k4 k5 k6 Q1 i2 hln
  go_wp2_with (first
    | (go_at_call 8; refine i4.mono ?_; rintro e w5 ⟨rfl, g5⟩; have B5 := hid (B4.out.trans (g5.mono B4.out.size)); clear g5)
    | (go_at_call 9; refine (i5 _).mono ?_; rintro y w' ⟨rfl, hw'⟩; rw [hw']; clear hw' w')
    | (go_at_call 7; refine (HZ.out w5 (HT.out.below B5.out hT)).mono ?_; rintro e w6 ⟨rfl, g6⟩; have B6 := hid ((B5.out.trans (g6.mono B5.out.size)).trans (((Below.refl w6.heap.size w6).alloc (Nat.le_refl _) (.cells #[.int .i64 0, .int .i64 0, .int .i64 0, .int .i64 0, .string ⟨#[]⟩, .slice none 0 0, .slice none 0 0, .slice none 0 0] 26)).mono (Nat.le_trans B5.out.size g6.size))); clear g6))
  go_loopw [19] (fun i w' => ∃ j : Nat, j ≤ 13 ∧ i = .int .i64 j ∧ Hid (Below w.heap.size w w')) (fun i _ => 13 - (intOf i).toNat)
  case atStart => exact ⟨0, by omega, rfl, B6⟩
  case round =>
    obtain ⟨j, hj, rfl, hB⟩ := hrel
    by_cases hlt : j < 13
    · have b0 : (j : Int) < 13 := by omega
      by_cases hjk : (j : Int) = k
      · have i6 := HK.out wr (HT.out.below hB.out hT)
        subst hjk
        have yj : (((j : Nat) : Int) != ((j : Nat) : Int)) = false := by simp
        go_wp2_with (go_at_call 7; fail)
        go_at_call 7
        refine i6.mono ?_
        rintro e w7 ⟨⟨xh, xe, xp, rfl, hG⟩, g7⟩
        obtain ⟨s4, t4, e1, _⟩ := id hG.1
        obtain ⟨s5, t5, e2, _⟩ := id hG.2.2.1
        obtain ⟨s6, t6, e3⟩ := id hG.2.2.2.2.1.shape
        subst e1 e2 e3
        rw [rpV, show sv x.root = .string ⟨x.root.toArray⟩ from rfl]
        have B7 := hid ((hB.out.trans (g7.mono hB.out.size)).trans (((Below.refl w7.heap.size w7).alloc (Nat.le_refl _) (.cells (rpO x (.slice s4 x.hs.length t4) (.slice s5 x.ent.length t5) (.slice s6 l.length t6)) 26)).mono (Nat.le_trans hB.out.size g7.size)))
        clear hG g7 i6
        go_wp2
        exact ⟨⟨j + 1, by omega, by go_num, B7⟩, by simp [intOf]; omega⟩
      · have i6 := HO.out (j : Int) (by omega) (by omega) hjk wr (HT.out.below hB.out hT)
        have yj : (((j : Nat) : Int) != k) = true := by simp [hjk]
        have yj2 : (((j : Nat) : Int) == k) = false := by simp [hjk]
        go_wp2_with (go_at_call 7; refine i6.mono ?_; rintro e w7 ⟨rfl, g7⟩; have B7 := hid ((hB.out.trans (g7.mono hB.out.size)).trans (((Below.refl w7.heap.size w7).alloc (Nat.le_refl _) (.cells #[.int .i64 0, .int .i64 0, .int .i64 0, .int .i64 0, .string ⟨#[]⟩, .slice none 0 0, .slice none 0 0, .slice none 0 0] 26)).mono (Nat.le_trans hB.out.size g7.size))); clear g7)
        exact ⟨⟨j + 1, by omega, by go_num, B7⟩, by simp [intOf]; omega⟩
    · obtain rfl : j = 13 := by omega
      go_wp2
      go_ret
      exact ⟨rfl, hB.out⟩
/-- MessageThere, whatever is handed in -/
theorem there17_any (k : Int) {x : Part} {l : List Part} {uh ue up : Value} (bh : ByteArray) (cut : Int) (hc1 : -9223372036854775808 ≤ cut) (hc2 : cut ≤ 9223372036854775807) (hbh : bh.size ≤ 4611686018427380000) (w : World) (T : Lay w) (h : Rq0 w x l uh ue up) (hm : l.length ≤ maxLen) :
    Calls Tryz.prog 3 #[.int .i64 k, .agg (rpO x uh ue up), .string bh, .int .i64 cut] w fun e w' => e = .returned (.bool true) ∧ Below w.heap.size w w' := by
  rcases enc_cases k x l h.ln with ⟨c, hc, he⟩ | ⟨f, he, hk0, hk1, ht⟩
  · exact there_no k bh cut w T h c hc he
  · exact there_yes k bh cut hc1 hc2 hbh w T h ⟨h.ft.hl, h.ft.el, hm⟩ (fun y hy => ⟨(h.lf y hy).hl, (h.lf y hy).el⟩) f hk0 hk1 he ht
end Msg
end Go.Proofs.YteilkpihddfpeaaGreatDoor
