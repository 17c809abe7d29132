import Derived.Test.YtmhgdcfmfcjagaaGreatDoorPkP1
import Derived.Test.YtmhgdcfmfcjagaaGreatDoorPkYW1
import Derived.Test.YtmhgdcfmfcjagaaGreatDoorPkMX2
namespace Go.Proofs.YtmhgdcfmfcjagaaGreatDoor
open Go.RowKit Cod

theorem str_eta {l : List UInt8} {b : ByteArray} (h : sv l = .string b) : b.data.toList = l ∧ b.size = l.length := by
  unfold sv at h
  injection h with h
  rw [← h]
  exact ⟨sv_data l, sv_size l⟩
theorem ne_empty {b : ByteArray} (h : 0 < b.size) : b.toList.isEmpty = false := by
  rw [isEmpty_data, decide_eq_false (by omega)]
/-- frames one behind the other -/
def framesOf (ps : List (List UInt8)) : List UInt8 := (ps.map wrText).flatten
theorem framesOf_succ (ps : List (List UInt8)) (k : Nat) (h : k < ps.length) : framesOf (ps.take (k + 1)) = framesOf (ps.take k) ++ wrText ps[k] := by
  simp only [framesOf]
  rw [List.take_succ_eq_append_getElem h, List.map_append, List.flatten_append, List.map_cons, List.map_nil, List.flatten_cons, List.flatten_nil, List.append_nil]
theorem framesOf_drop (ps : List (List UInt8)) (k : Nat) (h : k < ps.length) : framesOf (ps.drop k) = wrText ps[k] ++ framesOf (ps.drop (k + 1)) := by
  simp only [framesOf]
  rw [List.drop_eq_getElem_cons h, List.map_cons, List.flatten_cons]

end Go.Proofs.YtmhgdcfmfcjagaaGreatDoor

namespace Go.Proofs.YtmhgdcfmfcjagaaGreatDoor
open Go.RowKit Cod

set_option maxRecDepth 100000 in
set_option maxHeartbeats 2000000 in
theorem xwTexts_any (x : Nat) (S : List UInt8) (E : Int) (u : Value) (ps : List (List UInt8)) (many most : Int) (hll : ps.length ≤ 1000000000) (htot : total ps ≤ 1000000000) (w : World) (hs : Slc w u ps) (h : RWr w x S E) (hl : S.length ≤ 4611686018420000000) :
    Calls Tryz.prog 70 #[.pointer (some ⟨x, 0, none⟩), u, .int .i64 many, .int .i64 most] w (RPut w x S E (textsErr ps many most) (wrTexts ps)) := by
  have hx := h.lt
  have H := hid h
  have HS := hid hs
  obtain ⟨a, cap, rfl, _⟩ := hs
  have hD := digits_any ps.length (by omega) w
  have hd10 := digs_len9 (n := ps.length) (by omega)
  clear h
  by_cases h0 : many < 0
  · have e1 : textsErr ps many most = 1 := by rw [textsErr, if_pos (.inl h0)]
    rw [e1]
    clear e1
    go_enter Tryz.func70, Tryz.ntmps70
    go_wp2_with (go_at_call 96; refine (wrong_any x S E 1 _ H.out).mono ?_; rintro y w1 ⟨rfl, k1, k2⟩; have K1 := hid k1; have K2 := hid k2; clear k1 k2)
    go_end0
    exact rput_no (by omega) K1.out K2.out
  by_cases h1 : most < 0
  · have e1 : textsErr ps many most = 1 := by rw [textsErr, if_pos (.inr h1)]
    rw [e1]
    clear e1
    go_enter Tryz.func70, Tryz.ntmps70
    go_wp2_with (go_at_call 96; refine (wrong_any x S E 1 _ H.out).mono ?_; rintro y w1 ⟨rfl, k1, k2⟩; have K1 := hid k1; have K2 := hid k2; clear k1 k2)
    go_end0
    exact rput_no (by omega) K1.out K2.out
  by_cases h2 : many < (ps.length : Int)
  · have e1 : textsErr ps many most = 22 := by rw [textsErr, if_neg (by omega), if_pos h2]
    rw [e1]
    clear e1
    go_enter Tryz.func70, Tryz.ntmps70
    go_wp2_with (go_at_call 96; refine (wrong_any x S E 22 _ H.out).mono ?_; rintro y w1 ⟨rfl, k1, k2⟩; have K1 := hid k1; have K2 := hid k2; clear k1 k2)
    go_end0
    exact rput_no (by omega) K1.out K2.out
  obtain ⟨R, hR⟩ : ∃ R : Int, Hid (textsErr ps many most = R) := ⟨_, rfl⟩
  have hR2 := hR.out
  rw [textsErr, if_neg (by omega), if_neg h2] at hR2
  have HR2 := hid hR2
  rw [hR.out]
  clear hR2
  go_enter Tryz.func70, Tryz.ntmps70
  go_wp2_with (go_at_call 73; refine hD.mono ?_; rintro y w1 ⟨rfl, k1⟩; have K1 := hid k1; clear k1)
  clear hD
  go_loopw [8, 9] (fun s i w' => ∃ (k : Nat) (t : List UInt8), k ≤ ps.length ∧ i = .int .i64 k ∧ s = sv t ∧ Hid (t.length ≤ 9 + 9 * k + (ps.take k).flatten.length) ∧ Hid ((∀ p ∈ ps.drop k, (p.length : Int) ≤ most) ↔ ∀ p ∈ ps, (p.length : Int) ≤ most) ∧ Hid (t ++ ((ps.drop k).map wrText).flatten = wrTexts ps) ∧ Hid (Below w.heap.size w w')) (fun _ i _ => ps.length - (intOf i).toNat)
  case atStart => exact ⟨0, _, by omega, rfl, rfl, hid (by simp; omega), hid Iff.rfl, hid (by rw [List.drop_zero, wrTexts]), K1⟩
  case round =>
    obtain ⟨k, t, hk, rfl, rfl, htl, hr, ht, hbl⟩ := hrel
    by_cases hlt : k < ps.length
    · have hlt' : (k : Int) < (ps.length : Int) := by omega
      obtain ⟨a', cap', hu, hcs⟩ := HS.out.keep (S := fun _ => False) (Keep.ofBelow hbl.out) (fun _ _ _ _ _ h => h)
      cases hu
      obtain ⟨xx, hxx, hxb, hc⟩ := hcs k _ (List.getElem?_eq_getElem hlt)
      subst hxx
      have hpl := total_take ps k hlt
      have htk := take_flatten ps k hlt
      have htl2 := htl.out
      have ht2 := ht.out
      rw [List.drop_eq_getElem_cons hlt, texts_cons] at ht2
      by_cases hp : (ps[k].length : Int) ≤ most
      · have HR := hid (all_drop hlt hr.out hp)
        obtain ⟨p, hpv⟩ : ∃ p, Hid (sv ps[k] = .string p) := ⟨⟨ps[k].toArray⟩, hid rfl⟩
        obtain ⟨hpd, hpz⟩ := str_eta hpv.out
        rw [hpv.out] at hc
        rw [← hpz] at hp hpl
        rw [← hpd] at ht2
        have htk2 := congrArg List.length htk
        rw [List.length_append, ← hpz] at htk2
        have hq : ¬ most < (p.size : Int) := by omega
        have h9 := digs_len9 (n := p.size) (by omega)
        have hD2 := fun w => digits_any p.size (by omega) w
        have hadd := add_sv Tryz.prog 9 t (digs p.size) (by omega)
        have hadd2 := add_sv Tryz.prog 9 (t ++ digs p.size) p.data.toList (by rw [List.length_append, data_length]; omega)
        rw [sv_of, List.append_assoc, show digs p.size ++ p.data.toList = wrText p.data.toList from by rw [wrText, data_length]] at hadd2
        have HL2 : Hid ((t ++ wrText p.data.toList).length ≤ 9 + 9 * (k + 1) + (ps.take (k + 1)).flatten.length) := by
          show _ ≤ _
          rw [htk2, List.length_append, wrText, List.length_append, data_length]
          omega
        have HT2 : Hid ((t ++ wrText p.data.toList) ++ ((ps.drop (k + 1)).map wrText).flatten = wrTexts ps) := by
          show _ = _
          rw [List.append_assoc]; exact ht2
        have HD2 := hid hD2
        have hc' : wr.drew.cell? (xx.add k) = some (.string p) := hc
        clear hcs hpd hpz hpl htk htk2 htl2 ht2 h9 hD2
        go_wp2
        go_region_with ((go_at_call 73; refine (HD2.out _).mono ?_; rintro y w2 ⟨rfl, k2⟩; have K2 := hid (hbl.out.trans ((undrew k2).mono hbl.out.size)); have c2 := (k2.cell (p := xx.add k) (by rw [add_block]; exact hxb)).trans hc'; clear k2))
        all_goals go_wp2
        all_goals exact ⟨⟨k + 1, _, by omega, by go_num, rfl, HL2, HR, HT2, K2⟩, by simp [intOf]; omega⟩
      · have HR : R = 22 := by rw [← HR2.out, if_neg (not_all_drop (q := fun p : List UInt8 => (p.length : Int) ≤ most) hlt hp)]
        subst HR
        have R1 := hid (H.out.below hbl.out)
        obtain ⟨p, hpv⟩ : ∃ p, Hid (sv ps[k] = .string p) := ⟨⟨ps[k].toArray⟩, hid rfl⟩
        obtain ⟨hpd, hpz⟩ := str_eta hpv.out
        rw [hpv.out] at hc
        rw [← hpz] at hp
        have hq : most < (p.size : Int) := by omega
        clear hcs hpd hpz hpl htk htl2 ht2
        go_wp2_with (go_at_call 96; refine (wrong_any x S E 22 _ R1.out).mono ?_; rintro y w2 ⟨rfl, k1, k2⟩; have K3 := hid k1; have K4 := hid (But.below_trans hbl.out k2); clear k1 k2)
        go_end0
        exact rput_no (by omega) K3.out K4.out
    · obtain rfl : k = ps.length := by omega
      have hr2 := hr.out
      rw [List.drop_length] at hr2
      have e0 : R = 0 := by rw [← HR2.out, if_pos (hr2.1 (by simp))]
      have ht2 := ht.out
      rw [List.drop_length, List.map_nil, List.flatten_nil, List.append_nil] at ht2
      subst ht2
      subst e0
      have R1 := H.out.below hbl.out
      have c0 := R1.cell0
      have f0 : wr.frozen? ⟨x, 0, none⟩ = false := frozen_of_row _ _ _ _ _ R1
      have htl2 := htl.out
      rw [List.take_length] at htl2
      have hadd := add_sv Tryz.prog 9 S (wrTexts ps) (by unfold total at htot; omega)
      obtain ⟨z, hz⟩ : ∃ z, Hid (sv (S ++ wrTexts ps) = .string z) := ⟨_, rfl⟩
      rw [hz.out] at hadd
      clear R1 hr2 htl2
      go_wp2
      go_end0
      exact rput_yes H.out hz.out hbl.out
end Go.Proofs.YtmhgdcfmfcjagaaGreatDoor

namespace Go.Proofs.YtmhgdcfmfcjagaaGreatDoor
open Go.RowKit Cod

set_option maxRecDepth 100000 in
set_option maxHeartbeats 2000000 in
theorem xwHashes_any (x : Nat) (S : List UInt8) (E : Int) (u : Value) (ps : List (List UInt8)) (many : Int) (hll : ps.length ≤ 1000000000) (htot : total ps ≤ 1000000000) (w : World) (hs : Slc w u ps) (h : RWr w x S E) (hl : S.length ≤ 4611686018420000000) :
    Calls Tryz.prog 80 #[.pointer (some ⟨x, 0, none⟩), u, .int .i64 many] w (RPut w x S E (hashesErr ps many) (wrHashes ps)) := by
  have hx := h.lt
  have H := hid h
  have HS := hid hs
  obtain ⟨a, cap, rfl, _⟩ := hs
  have hD := digits_any ps.length (by omega) w
  have hd10 := digs_len9 (n := ps.length) (by omega)
  clear h
  by_cases h0 : many < 0
  · have e1 : hashesErr ps many = 1 := by rw [hashesErr, if_pos h0]
    rw [e1]
    clear e1
    go_enter Tryz.func80, Tryz.ntmps80
    go_wp2_with (go_at_call 96; refine (wrong_any x S E 1 _ H.out).mono ?_; rintro y w1 ⟨rfl, k1, k2⟩; have K1 := hid k1; have K2 := hid k2; clear k1 k2)
    go_end0
    exact rput_no (by omega) K1.out K2.out
  by_cases h2 : many < (ps.length : Int)
  · have e1 : hashesErr ps many = 22 := by rw [hashesErr, if_neg h0, if_pos h2]
    rw [e1]
    clear e1
    go_enter Tryz.func80, Tryz.ntmps80
    go_wp2_with (go_at_call 96; refine (wrong_any x S E 22 _ H.out).mono ?_; rintro y w1 ⟨rfl, k1, k2⟩; have K1 := hid k1; have K2 := hid k2; clear k1 k2)
    go_end0
    exact rput_no (by omega) K1.out K2.out
  obtain ⟨R, hR⟩ : ∃ R : Int, Hid (hashesErr ps many = R) := ⟨_, rfl⟩
  have hR2 := hR.out
  rw [hashesErr, if_neg h0, if_neg h2] at hR2
  have HR2 := hid hR2
  rw [hR.out]
  clear hR2
  go_enter Tryz.func80, Tryz.ntmps80
  go_wp2_with (go_at_call 73; refine hD.mono ?_; rintro y w1 ⟨rfl, k1⟩; have K1 := hid k1; clear k1)
  clear hD
  go_loopw [6, 7] (fun s i w' => ∃ (k : Nat) (t : List UInt8), k ≤ ps.length ∧ i = .int .i64 k ∧ s = sv t ∧ Hid (t.length ≤ 9 + 9 * k + (ps.take k).flatten.length) ∧ Hid ((∀ p ∈ ps.drop k, p.length = 32) ↔ ∀ p ∈ ps, p.length = 32) ∧ Hid (t ++ (ps.drop k).flatten = wrHashes ps) ∧ Hid (Below w.heap.size w w')) (fun _ i _ => ps.length - (intOf i).toNat)
  case atStart => exact ⟨0, _, by omega, rfl, rfl, hid (by simp; omega), hid Iff.rfl, hid (by rw [List.drop_zero, wrHashes]), K1⟩
  case round =>
    obtain ⟨k, t, hk, rfl, rfl, htl, hr, ht, hbl⟩ := hrel
    by_cases hlt : k < ps.length
    · have hlt' : (k : Int) < (ps.length : Int) := by omega
      obtain ⟨a', cap', hu, hcs⟩ := HS.out.keep (S := fun _ => False) (Keep.ofBelow hbl.out) (fun _ _ _ _ _ h => h)
      cases hu
      obtain ⟨xx, hxx, hxb, hc⟩ := hcs k _ (List.getElem?_eq_getElem hlt)
      subst hxx
      have hpl := total_take ps k hlt
      have htk := take_flatten ps k hlt
      have htl2 := htl.out
      have ht2 := ht.out
      rw [List.drop_eq_getElem_cons hlt, List.flatten_cons] at ht2
      by_cases hp : ps[k].length = 32
      · have HR := hid (all_drop hlt hr.out hp)
        obtain ⟨p, hpv⟩ : ∃ p, Hid (sv ps[k] = .string p) := ⟨⟨ps[k].toArray⟩, hid rfl⟩
        obtain ⟨hpd, hpz⟩ := str_eta hpv.out
        rw [hpv.out] at hc
        rw [← hpz] at hp hpl
        rw [← hpd] at ht2
        have htk2 := congrArg List.length htk
        rw [List.length_append, ← hpz] at htk2
        have hq : ((p.size : Int) == 32) = true := by rw [beq_iff_eq]; omega
        have hq2 : ((p.size : Int) != 32) = false := by simp; omega
        have hadd2 := add_sv Tryz.prog 9 t p.data.toList (by rw [data_length]; omega)
        rw [sv_of] at hadd2
        have HL2 : Hid ((t ++ p.data.toList).length ≤ 9 + 9 * (k + 1) + (ps.take (k + 1)).flatten.length) := by
          show _ ≤ _
          rw [htk2, List.length_append, data_length]
          omega
        have HT2 : Hid ((t ++ p.data.toList) ++ (ps.drop (k + 1)).flatten = wrHashes ps) := by
          show _ = _
          rw [List.append_assoc]; exact ht2
        clear hcs hpd hpz hpl htk htk2 htl2 ht2 hp
        go_wp2
        exact ⟨⟨k + 1, _, by omega, by go_num, rfl, HL2, HR, HT2, hbl⟩, by simp [intOf]; omega⟩
      · have HR : R = 20 := by rw [← HR2.out, if_neg (not_all_drop (q := fun p : List UInt8 => p.length = 32) hlt hp)]
        subst HR
        have R1 := hid (H.out.below hbl.out)
        obtain ⟨p, hpv⟩ : ∃ p, Hid (sv ps[k] = .string p) := ⟨⟨ps[k].toArray⟩, hid rfl⟩
        obtain ⟨hpd, hpz⟩ := str_eta hpv.out
        rw [hpv.out] at hc
        rw [← hpz] at hp
        have hq : ((p.size : Int) == 32) = false := by simp; omega
        have hq2 : ((p.size : Int) != 32) = true := by simp; omega
        clear hcs hpd hpz hpl htk htl2 ht2
        go_wp2_with (go_at_call 96; refine (wrong_any x S E 20 _ R1.out).mono ?_; rintro y w2 ⟨rfl, k1, k2⟩; have K3 := hid k1; have K4 := hid (But.below_trans hbl.out k2); clear k1 k2)
        go_end0
        exact rput_no (by omega) K3.out K4.out
    · obtain rfl : k = ps.length := by omega
      have hr2 := hr.out
      rw [List.drop_length] at hr2
      have e0 : R = 0 := by rw [← HR2.out, if_pos (hr2.1 (by simp))]
      have ht2 := ht.out
      rw [List.drop_length, List.flatten_nil, List.append_nil] at ht2
      subst ht2
      subst e0
      have R1 := H.out.below hbl.out
      have c0 := R1.cell0
      have f0 : wr.frozen? ⟨x, 0, none⟩ = false := frozen_of_row _ _ _ _ _ R1
      have htl2 := htl.out
      rw [List.take_length] at htl2
      have hadd := add_sv Tryz.prog 9 S (wrHashes ps) (by unfold total at htot; omega)
      obtain ⟨z, hz⟩ : ∃ z, Hid (sv (S ++ wrHashes ps) = .string z) := ⟨_, rfl⟩
      rw [hz.out] at hadd
      clear R1 hr2 htl2
      go_wp2
      go_end0
      exact rput_yes H.out hz.out hbl.out
end Go.Proofs.YtmhgdcfmfcjagaaGreatDoor

namespace Go.Proofs.YtmhgdcfmfcjagaaGreatDoor
open Go.RowKit Cod
namespace Msg

/-- what is wrong stays so -/
structure Abs (L : LS → LS) : Prop where
  bad : ∀ e q, ∃ f r, L (.bad e, q) = (.bad f, r)
  wr : ∀ s : LS, s.2 = true → (L s).2 = true
theorem Abs.mid {L : LS → LS} (h : Abs L) {s : LS} {out : List UInt8} (e : L s = (.ok out, false)) : ∃ m, s = (.ok m, false) := by
  obtain ⟨st, q⟩ := s
  cases q with
  | true =>
    have := h.wr (st, true) rfl
    rw [e] at this
    cases this
  | false =>
    cases st with
    | bad f =>
      obtain ⟨f', r, e'⟩ := h.bad f false
      rw [e] at e'
      cases e'
    | ok m => exact ⟨m, rfl⟩
theorem Abs.id : Abs id := ⟨fun e q => ⟨e, q, rfl⟩, fun _ h => h⟩
theorem Abs.comp {L1 L2 : LS → LS} (h1 : Abs L1) (h2 : Abs L2) : Abs (fun s => L2 (L1 s)) :=
  ⟨fun e q => by
    obtain ⟨f, r, e1⟩ := h1.bad e q
    obtain ⟨f2, r2, e2⟩ := h2.bad f r
    exact ⟨f2, r2, by rw [e1, e2]⟩, fun s h => h2.wr _ (h1.wr s h)⟩
theorem abs_lif (ok : Bool) (e : Int) (l : List UInt8) : Abs (lif ok e l) :=
  ⟨fun f q => by
    rw [lif]
    split
    · exact ⟨f, q, rfl⟩
    · exact ⟨f, true, rfl⟩, fun s h => by
    rw [lif]
    split
    · exact h
    · rfl⟩
/-- what is laid down, if all is right, is taken as it was, whatever stands behind it -/
def Bk {α : Type} (L : LS → LS) (R : TS → α × TS) (v : α) : Prop :=
  ∀ acc out, L (.ok acc, false) = (.ok out, false) → ∃ bs, out = acc ++ bs ∧ ∀ rest k, R (⟨bs ++ rest, k, 0⟩, false) = (v, (⟨rest, k + bs.length, 0⟩, false))
theorem lif_ok {ok : Bool} {e : Int} {l acc out : List UInt8} (h : lif ok e l (.ok acc, false) = (.ok out, false)) : ok = true ∧ e = 0 ∧ out = acc ++ l := by
  rw [lif] at h
  split at h
  · rename_i h1
    have h2 : (WSt.ok acc).put e l = .ok out := (Prod.mk.inj h).1
    rw [WSt.put] at h2
    split at h2
    · rename_i h3
      exact ⟨h1, h3, by injection h2 with h2; exact h2.symm⟩
    · cases h2
  · cases (Prod.mk.inj h).2
theorem bk_lif {α : Type} (R : List UInt8 → Rd α) (okf : α → Bool) (d v : α) (ok : Bool) (e : Int) (l : List UInt8) (hR : ok = true → e = 0 → okf v = true ∧ ∀ rest, R (l ++ rest) = .good v rest) : Bk (lif ok e l) (tk R okf d) v := fun acc out h => by
  obtain ⟨h1, h2, h3⟩ := lif_ok h
  obtain ⟨g1, g2⟩ := hR h1 h2
  refine ⟨l, h3, fun rest k => ?_⟩
  unfold tk
  simp only [g2, RS.val, RS.step, if_true, g1, Bool.not_true, Bool.or_false, List.length_append, Nat.add_sub_cancel]
theorem bk_mark (n lo hi : Int) : Bk (lMark n lo hi) (tMark lo hi) n.toNat := fun acc out h => by
  obtain ⟨h1, h2, h3⟩ := lif_ok h
  have hn : 0 ≤ n ∧ n ≤ 255 := by
    rw [byteErr] at h2
    split at h2
    · cases h2
    · omega
  exact bk_lif rdByte (fun m => wi (m : Int) lo hi) 0 n.toNat _ _ _ (fun _ _ => ⟨by rw [Int.toNat_of_nonneg hn.1]; exact h1, fun rest => by
    show Rd.good (UInt8.ofNat n.toNat).toNat rest = _
    congr 1
    simp; omega⟩) acc out h
theorem bk_size (n : Int) : Bk (lSize n) tSize n.toNat := fun acc out h => by
  obtain ⟨h1, h2, h3⟩ := lif_ok h
  have hn := h1
  rw [isSz, wi_iff] at hn
  exact bk_lif rdNum (fun m => isSz (m : Int)) 0 n.toNat _ _ _ (fun _ _ => ⟨by rw [Int.toNat_of_nonneg hn.1]; exact h1, fun rest => num_there (by rw [top]; omega) rest⟩) acc out h
theorem ints_of : ∀ (l : List Int) (last : Int), -1 ≤ last → risesB last l = true → ints (l.map Int.toNat) = l ∧ Rises (last + 1).toNat (l.map Int.toNat)
  | [], _, _, _ => ⟨rfl, trivial⟩
  | n :: l, last, hl, h => by
    rw [risesB, Bool.and_eq_true, decide_eq_true_eq] at h
    obtain ⟨⟨h1, h2, h3⟩, h4⟩ := h
    obtain ⟨g1, g2⟩ := ints_of l n (by omega) h4
    refine ⟨?_, by omega, by rw [top]; omega, ?_⟩
    · rw [List.map_cons, ints, List.map_cons, ← ints, g1]
      congr 1
      exact Int.toNat_of_nonneg h1
    · rwa [show (n + 1).toNat = n.toNat + 1 from by omega] at g2
theorem bk_sizes (l : List Int) (many : Int) (hm : many ≤ 4096) : ∀ acc out, lSizes l many (.ok acc, false) = (.ok out, false) → ints (l.map Int.toNat) = l ∧ ∃ bs, out = acc ++ bs ∧ ∀ rest k, tSizes many (⟨bs ++ rest, k, 0⟩, false) = (l.map Int.toNat, (⟨rest, k + bs.length, 0⟩, false)) := fun acc out h => by
  obtain ⟨h1, h2, h3⟩ := lif_ok h
  have hr : risesB (-1) l = true := by
    rw [risingErr] at h2
    split at h2
    · assumption
    · cases h2
  obtain ⟨g1, g2⟩ := ints_of l (-1) (by omega) hr
  have hl : wi (l.length : Int) 1 many = true := by
    rw [arSz, Bool.and_eq_true] at h1; exact h1.1
  have hl := (wi_iff.1 hl).2
  refine ⟨g1, bk_lif (fun b => rdRising b many) (fun l => arSz (ints l) many) [] (l.map Int.toNat) _ _ _ (fun _ _ => ⟨by rw [g1]; exact h1, fun rest => rising_there (by rw [List.length_map, top]; omega) (by rw [List.length_map]; exact hl) g2 rest⟩) acc out h⟩
theorem bk_texts (l : List (List UInt8)) (least many most : Int) (hm : many ≤ 4096) (ho : most ≤ 4096) : Bk (lTexts l least many most) (tTexts least many most) l := fun acc out h => by
  obtain ⟨h1, h2, h3⟩ := lif_ok h
  rw [textsErr] at h2
  split at h2
  · cases h2
  split at h2
  · cases h2
  split at h2
  · rename_i a1 a2 a3
    exact bk_lif (fun b => rdTexts b many most) (fun l => decide (least ≤ (l.length : Int))) [] l _ _ _ (fun _ _ => ⟨h1, fun rest => texts_there (by rw [top]; omega) (by omega) (by omega) (fun t ht => ⟨by have := a3 t ht; rw [top]; omega, a3 t ht⟩) rest⟩) acc out h
  · cases h2
theorem bk_hashes (l : List (List UInt8)) : Bk (lHashes l) tHashes l := fun acc out h => by
  obtain ⟨h1, h2, h3⟩ := lif_ok h
  rw [hashesErr] at h2
  split at h2
  · cases h2
  split at h2
  · cases h2
  split at h2
  · rename_i a1 a2 a3
    exact bk_lif (fun b => rdHashes b 32768) (fun _ => true) [] l _ _ _ (fun _ _ => ⟨rfl, fun rest => hashes_there (by rw [top]; omega) (by omega) a3 rest⟩) acc out h
  · cases h2
theorem bk_root (t : List UInt8) : Bk (lRoot t) tRoot t := fun acc out h => by
  obtain ⟨h1, h2, h3⟩ := lif_ok h
  have h32 : t.length = 32 := of_decide_eq_true h1
  exact bk_lif (fun b => rdRaw b 32) (fun _ => true) [] t _ _ _ (fun _ _ => ⟨rfl, fun rest => by have := raw_there t rest; rw [h32] at this; exact this⟩) acc out h
/-- REQUESTS -/
theorem Ask.ext' {x y : Ask} (h1 : x.kind = y.kind) (h2 : x.a = y.a) (h3 : x.b = y.b) (h4 : x.size = y.size) (h5 : x.list = y.list) (h6 : x.ent = y.ent) (h7 : x.n = y.n) : x = y := by
  cases x; cases y; simp_all
theorem whole_parts {x t : Ask} (h : whole x t = true) : x.kind = t.kind ∧ x.a = t.a ∧ x.b = t.b ∧ x.size = t.size ∧ x.list.length = t.list.length ∧ x.ent.length = t.ent.length ∧ x.n = t.n := by
  unfold whole at h
  rw [Bool.and_eq_true, Bool.and_eq_true, Bool.and_eq_true, Bool.and_eq_true, Bool.and_eq_true, Bool.and_eq_true] at h
  obtain ⟨h1, h2, h3, h4, h5, h6, h7⟩ := h
  exact ⟨of_decide_eq_true h1, of_decide_eq_true h2, of_decide_eq_true h3, of_decide_eq_true h4, of_decide_eq_true h5, of_decide_eq_true h6, of_decide_eq_true h7⟩
/-- what whole says: nothing stands in a field that the kind has not -/
theorem whole_self' (x : Ask) (k : Nat) (h : whole x (setFs x (flds k) (Ask.of x.kind)) = true) : setFs x (flds k) (Ask.of x.kind) = x := by
  obtain ⟨p1, p2, p3, p4, p5, p6, p7⟩ := whole_parts h
  match k with
  | 0 | 1 | 2 | 3 | 4 | 5 | 6 | 7 | 8 | 9 | 10 | 11 | 12 | n + 13 =>
    exact Ask.ext' rfl (by first | rfl | exact p2.symm) (by first | rfl | exact p3.symm) (by first | rfl | exact p4.symm) (by first | rfl | exact (List.length_eq_zero_iff.1 p5).symm) (by first | rfl | exact (List.length_eq_zero_iff.1 p6).symm) (by first | rfl | exact p7.symm)
/-- the asks, where the field is theirs -/
def lsF (l : List Ask) : Fq → List Ask → List Ask
  | .asks, _ => l
  | _, l0 => l0
def lsFs (l : List Ask) (fs : List Fq) (l0 : List Ask) : List Ask := fs.foldl (fun l0 g => lsF l g l0) l0
theorem abs_fq (x : Ask) (db : LS → LS) (hd : Abs db) (g : Fq) : Abs (lFq x db g) := by
  cases g with
  | a => exact abs_lif _ _ _
  | b => exact abs_lif _ _ _
  | size => exact abs_lif _ _ _
  | indices => exact abs_lif _ _ _
  | heads => exact abs_lif _ _ _
  | asks => exact hd
  | entries => exact abs_lif _ _ _
theorem abs_flds (x : Ask) (db : LS → LS) (hd : Abs db) : ∀ fs : List Fq, Abs (lFlds x db fs)
  | [] => Abs.id
  | g :: fs => (abs_fq x db hd g).comp (abs_flds x db hd fs)
/-- the asks come back -/
def BkA (db : LS → LS) (da : TS → List Ask × TS) (l : List Ask) : Prop := Bk db da l
theorem size_pos {n : Int} {acc out : List UInt8} (h : lSize n (.ok acc, false) = (.ok out, false)) : (n.toNat : Int) = n := by
  obtain ⟨h1, _, _⟩ := lif_ok h
  rw [isSz, wi_iff] at h1
  exact Int.toNat_of_nonneg h1.1
theorem fq_back (x : Ask) (db : LS → LS) (da : TS → List Ask × TS) (l : List Ask) (hb : BkA db da l) (hn : x.n = l.length) (g : Fq) (acc out : List UInt8) (h : lFq x db g (.ok acc, false) = (.ok out, false)) :
    ∃ bs, out = acc ++ bs ∧ ∀ t l0 rest k, tFq da g ((t, l0), (⟨bs ++ rest, k, 0⟩, false)) = ((setF x g t, lsF l g l0), (⟨rest, k + bs.length, 0⟩, false)) := by
  cases g with
  | a =>
    obtain ⟨bs, h1, h2⟩ := bk_size x.a acc out h
    exact ⟨bs, h1, fun t l0 rest k => by rw [tFq, h2, size_pos h]; rfl⟩
  | b =>
    obtain ⟨bs, h1, h2⟩ := bk_size x.b acc out h
    exact ⟨bs, h1, fun t l0 rest k => by rw [tFq, h2, size_pos h]; rfl⟩
  | size =>
    obtain ⟨bs, h1, h2⟩ := bk_size x.size acc out h
    exact ⟨bs, h1, fun t l0 rest k => by rw [tFq, h2, size_pos h]; rfl⟩
  | indices =>
    obtain ⟨e, bs, h1, h2⟩ := bk_sizes x.list 256 (by omega) acc out h
    exact ⟨bs, h1, fun t l0 rest k => by rw [tFq, h2, e]; rfl⟩
  | heads =>
    obtain ⟨e, bs, h1, h2⟩ := bk_sizes x.list 64 (by omega) acc out h
    exact ⟨bs, h1, fun t l0 rest k => by rw [tFq, h2, e]; rfl⟩
  | asks =>
    obtain ⟨bs, h1, h2⟩ := hb acc out h
    exact ⟨bs, h1, fun t l0 rest k => by rw [tFq, h2, ← hn]; rfl⟩
  | entries =>
    obtain ⟨bs, h1, h2⟩ := bk_texts x.ent 1 32 4096 (by omega) (by omega) acc out h
    exact ⟨bs, h1, fun t l0 rest k => by rw [tFq, h2]; rfl⟩
theorem flds_back (x : Ask) (db : LS → LS) (da : TS → List Ask × TS) (l : List Ask) (hd : Abs db) (hb : BkA db da l) (hn : x.n = l.length) : ∀ (fs : List Fq) (acc out : List UInt8), lFlds x db fs (.ok acc, false) = (.ok out, false) →
    ∃ bs, out = acc ++ bs ∧ ∀ t l0 rest k, tFlds da fs ((t, l0), (⟨bs ++ rest, k, 0⟩, false)) = ((setFs x fs t, lsFs l fs l0), (⟨rest, k + bs.length, 0⟩, false))
  | [], acc, out, h => by
    have h : acc = out := by
      have := (Prod.mk.inj h).1
      injection this
    exact ⟨[], by rw [← h, List.append_nil], fun t l0 rest k => rfl⟩
  | g :: fs, acc, out, h => by
    have h : lFlds x db fs (lFq x db g (.ok acc, false)) = (.ok out, false) := h
    obtain ⟨m, hm⟩ := (abs_flds x db hd fs).mid h
    rw [hm] at h
    obtain ⟨bs1, e1, g1⟩ := fq_back x db da l hb hn g acc m hm
    obtain ⟨bs2, e2, g2⟩ := flds_back x db da l hd hb hn fs m out h
    refine ⟨bs1 ++ bs2, by rw [e2, e1, List.append_assoc], fun t l0 rest k => ?_⟩
    show tFlds da fs (tFq da g ((t, l0), (⟨bs1 ++ bs2 ++ rest, k, 0⟩, false))) = _
    rw [List.append_assoc, g1, g2, List.length_append, Nat.add_assoc]
    rfl
theorem req_back (x : Ask) (db : LS → LS) (da : TS → List Ask × TS) (l : List Ask) (hd : Abs db) (hb : BkA db da l) (hn : x.n = l.length) (lo hi : Int) (acc out : List UInt8) (h : lReq x db lo hi (.ok acc, false) = (.ok out, false)) :
    setFs x (flds x.kind.toNat) (Ask.of x.kind) = x ∧ wi x.kind lo hi = true ∧ ∃ bs, out = acc ++ bs ∧ ∀ rest k, tReq da lo hi (⟨bs ++ rest, k, 0⟩, false) = ((x, lsFs l (flds x.kind.toNat) []), (⟨rest, k + bs.length, 0⟩, false)) := by
  rw [lReq] at h
  by_cases hw : wi x.kind lo hi = true
  · rw [if_pos hw] at h
    have h2 := (Prod.mk.inj h).2
    rw [Bool.or_eq_false_iff, Bool.not_eq_false'] at h2
    have h1 : lFlds x db (flds x.kind.toNat) (lMark x.kind lo hi (.ok acc, false)) = (.ok out, false) := Prod.ext (Prod.mk.inj h).1 h2.1
    have hs := whole_self' x x.kind.toNat h2.2
    obtain ⟨m, hm⟩ := (abs_flds x db hd _).mid h1
    rw [hm] at h1
    obtain ⟨bs1, e1, g1⟩ := bk_mark x.kind lo hi acc m hm
    obtain ⟨bs2, e2, g2⟩ := flds_back x db da l hd hb hn _ m out h1
    have hk : (x.kind.toNat : Int) = x.kind := by
      obtain ⟨_, a2, _⟩ := lif_ok hm
      refine Int.toNat_of_nonneg ?_
      rw [byteErr] at a2
      split at a2
      · cases a2
      · omega
    refine ⟨hs, hw, bs1 ++ bs2, by rw [e2, e1, List.append_assoc], fun rest k => ?_⟩
    rw [tReq, List.append_assoc, g1]
    rw [hk, if_pos hw, g2, hs, List.length_append, Nat.add_assoc]
  · rw [if_neg hw] at h
    cases (Prod.mk.inj h).2
theorem abs_req (x : Ask) (db : LS → LS) (hd : Abs db) (lo hi : Int) : Abs (lReq x db lo hi) := by
  have h0 := (abs_lif (wi x.kind lo hi) (byteErr x.kind) [UInt8.ofNat x.kind.toNat]).comp (abs_flds x db hd (flds x.kind.toNat))
  refine ⟨fun e q => ?_, fun s h => ?_⟩
  · rw [lReq]
    split
    · obtain ⟨f, r, e1⟩ := h0.bad e q
      refine ⟨f, r || !whole x (setFs x (flds x.kind.toNat) (Ask.of x.kind)), ?_⟩
      have e1 : lFlds x db (flds x.kind.toNat) (lMark x.kind lo hi (.bad e, q)) = (.bad f, r) := e1
      rw [e1]
    · exact ⟨e, true, rfl⟩
  · rw [lReq]
    split
    · have := h0.wr s h
      have this : (lFlds x db (flds x.kind.toNat) (lMark x.kind lo hi s)).2 = true := this
      show (_ || _) = true
      rw [this, Bool.true_or]
    · rfl
theorem abs_asks : ∀ l : List Ask, Abs (fun s => l.foldl (fun s x => lAsk x s) s)
  | [] => Abs.id
  | x :: l => (abs_req x id Abs.id 3 7).comp (abs_asks l)
/-- an ask of a group has no asks of its own -/
theorem no_ls {x : Ask} (hw : wi x.kind 3 7 = true) (hs : setFs x (flds x.kind.toNat) (Ask.of x.kind) = x) : x.n = 0 := by
  have hk := wi_iff.1 hw
  obtain ⟨n, hn⟩ := Int.eq_ofNat_of_zero_le (show 0 ≤ x.kind by omega)
  rw [← hs]
  rw [hn, Int.toNat_natCast]
  have h1 : 3 ≤ n := by omega
  have h2 : n ≤ 7 := by omega
  match n, h1, h2 with
  | 3, _, _ => rfl
  | 4, _, _ => rfl
  | 5, _, _ => rfl
  | 6, _, _ => rfl
  | 7, _, _ => rfl
theorem ask_back (x : Ask) (acc out : List UInt8) (h : lAsk x (.ok acc, false) = (.ok out, false)) : ∃ bs, out = acc ++ bs ∧ ∀ rest k, tAsk (⟨bs ++ rest, k, 0⟩, false) = (x, (⟨rest, k + bs.length, 0⟩, false)) := by
  by_cases hn : x.n = 0
  · obtain ⟨_, _, bs, h1, h2⟩ := req_back x id (fun s => ([], s)) [] Abs.id (fun acc out h => ⟨[], by have := (Prod.mk.inj h).1; injection this with this; rw [← this, List.append_nil], fun rest k => rfl⟩) hn 3 7 acc out h
    exact ⟨bs, h1, fun rest k => by rw [tAsk, h2]⟩
  · exfalso
    have h' : lReq x id 3 7 (.ok acc, false) = (.ok out, false) := h
    rw [lReq] at h'
    by_cases hw : wi x.kind 3 7 = true
    · rw [if_pos hw] at h'
      have h2 := (Prod.mk.inj h').2
      rw [Bool.or_eq_false_iff, Bool.not_eq_false'] at h2
      exact hn (no_ls hw (whole_self' x x.kind.toNat h2.2))
    · rw [if_neg hw] at h'
      cases (Prod.mk.inj h').2
theorem many_back : ∀ (l : List Ask) (acc out : List UInt8), l.foldl (fun s x => lAsk x s) (.ok acc, false) = (.ok out, false) → ∃ bs, out = acc ++ bs ∧ ∀ l0 rest k, tMany l.length l0 (⟨bs ++ rest, k, 0⟩, false) = (l0 ++ l, (⟨rest, k + bs.length, 0⟩, false))
  | [], acc, out, h => by
    have h : acc = out := by
      have := (Prod.mk.inj h).1
      injection this
    exact ⟨[], by rw [← h, List.append_nil], fun l0 rest k => by rw [List.length_nil, tMany, List.append_nil]; rfl⟩
  | x :: l, acc, out, h => by
    rw [List.foldl_cons] at h
    obtain ⟨m, hm⟩ := (abs_asks l).mid h
    rw [hm] at h
    obtain ⟨bs1, e1, g1⟩ := ask_back x acc m hm
    obtain ⟨bs2, e2, g2⟩ := many_back l m out h
    refine ⟨bs1 ++ bs2, by rw [e2, e1, List.append_assoc], fun l0 rest k => ?_⟩
    rw [List.length_cons, tMany, List.append_assoc, g1, g2, List.append_assoc, List.length_append, Nat.add_assoc]
    rfl
theorem asks_back (l : List Ask) : BkA (lAsks l) tAsks l := fun acc out h => by
  rw [lAsks] at h
  by_cases hw : wi (l.length : Int) 1 64 = true
  · rw [if_pos hw] at h
    obtain ⟨m, hm⟩ := (abs_asks l).mid h
    rw [hm] at h
    obtain ⟨_, _, e1⟩ := lif_ok hm
    obtain ⟨bs2, e2, g2⟩ := many_back l m out h
    have hle := wi_iff.1 hw
    refine ⟨digs (l.length : Int).toNat ++ bs2, by rw [e2, e1, List.append_assoc], fun rest k => ?_⟩
    have hc : ∀ rest k, tCount (⟨digs l.length ++ rest, k, 0⟩, false) = (l.length, (⟨rest, k + (digs l.length).length, 0⟩, false)) := fun rest k => by
      have ht : tk rdNum (fun n => wi (n : Int) 1 64) 0 (⟨digs l.length ++ rest, k, 0⟩, false) = (l.length, (⟨rest, k + (digs l.length).length, 0⟩, false)) := by
        unfold tk
        simp only [num_there (show l.length ≤ top by rw [top]; omega), RS.val, RS.step, if_true, hw, Bool.not_true, Bool.or_false, List.length_append, Nat.add_sub_cancel]
      rw [tCount, ht, if_pos hw]
    rw [Int.toNat_natCast, tAsks, List.append_assoc, hc, g2, List.nil_append, List.length_append, Nat.add_assoc]
  · rw [if_neg hw] at h
    cases (Prod.mk.inj h).2
theorem abs_lAsks (l : List Ask) : Abs (lAsks l) := by
  have h0 := (abs_lif true (numErr (l.length : Int)) (digs (l.length : Int).toNat)).comp (abs_asks l)
  refine ⟨fun e q => ?_, fun s h => ?_⟩
  · rw [lAsks]
    split
    · exact h0.bad e q
    · exact ⟨e, true, rfl⟩
  · rw [lAsks]
    split
    · exact h0.wr s h
    · rfl
/-- THE REQUEST: what was laid down whole is taken as it was -/
theorem req_there (x : Ask) (l : List Ask) (hn : x.n = l.length) (p : List UInt8) (h : lRequest x l (.ok [], false) = (.ok p, false)) :
    tRequest (⟨p, 0, 0⟩, false) = ((x, lsFs l (flds x.kind.toNat) []), (⟨[], p.length, 0⟩, false)) := by
  obtain ⟨_, _, bs, h1, h2⟩ := req_back x (lAsks l) tAsks l (abs_lAsks l) (asks_back l) hn 1 12 [] p h
  rw [List.nil_append] at h1
  subst h1
  have := h2 [] 0
  rw [List.append_nil, Nat.zero_add] at this
  exact this
end Msg
end Go.Proofs.YtmhgdcfmfcjagaaGreatDoor
