import Derived.Test.YtmhgdcfmfcjagaaGreatDoorPkP1
import Derived.Test.YtmhgdcfmfcjagaaGreatDoorPkMX2
import Derived.Test.YtmhgdcfmfcjagaaGreatDoorPkMV4
import Derived.Deep.Slices
import Derived.Test.YtmhgdcfmfcjagaaGreatDoorPkMW7
import Derived.Test.YtmhgdcfmfcjagaaGreatDoorPkMW10
namespace Go.Proofs.YtmhgdcfmfcjagaaGreatDoor
open Go.RowKit Cod
set_option maxRecDepth 100000 in
set_option maxHeartbeats 1000000 in
theorem xwDone_any (x : Nat) (S : List UInt8) (E : Int) (w : World) (h : RWr w x S E) :
    Calls Tryz.prog 36 #[.pointer (some ⟨x, 0, none⟩)] w fun r w' => r = .returned (.tuple #[sv (if E = 0 then S else []), .int .i64 E]) ∧ Below w.heap.size w w' := by
  have c0 := h.cell0
  have c1 := h.cell1
  clear h
  by_cases hE : E = 0
  · subst hE
    rw [if_pos rfl]
    go_enter Tryz.func36, Tryz.ntmps36
    go_wp2
    go_ret2
    exact ⟨rfl, Below.refl _ _⟩
  · rw [if_neg hE]
    have hE' : (E == 0) = false := by simp; exact hE
    have hE2 : (E != 0) = true := by simp; exact hE
    go_enter Tryz.func36, Tryz.ntmps36
    go_wp2
    go_quiet (fail)
    go_wp2
    go_ret2
    exact ⟨rfl, below_drewN (Below.refl _ _) _⟩
end Go.Proofs.YtmhgdcfmfcjagaaGreatDoor

namespace Go.Proofs.YtmhgdcfmfcjagaaGreatDoor
open Go.RowKit Cod
theorem str_eta {l : List UInt8} {b : ByteArray} (h : sv l = .string b) : b.data.toList = l ∧ b.size = l.length := by
  unfold sv at h
  injection h with h
  rw [← h]
  exact ⟨sv_data l, sv_size l⟩
end Go.Proofs.YtmhgdcfmfcjagaaGreatDoor

namespace Go.Proofs.YtmhgdcfmfcjagaaGreatDoor
open Go.RowKit Cod
set_option maxRecDepth 100000 in
set_option maxHeartbeats 2000000 in
theorem xwTexts_any (x : Nat) (S : List UInt8) (E : Int) (u : Value) (ps : List (List UInt8)) (many most : Int) (hll : ps.length ≤ 1000000000) (htot : total ps ≤ 1000000000) (w : World) (hs : Slc w u ps) (h : RWr w x S E) (hl : S.length ≤ 4611686018420000000) :
    Calls Tryz.prog 70 #[.pointer (some ⟨x, 0, none⟩), u, .int .i64 many, .int .i64 most] w (RPut w x S E (textsErr ps many most) (wrTexts ps)) := by
  have hx := h.lt
  have H := hid h
  have HS := hid hs
  obtain ⟨a, cap, rfl, _⟩ := hs
  have hD := digits_any ps.length (by omega) w
  have hd10 := digs_len9 (n := ps.length) (by omega)
  clear h
  by_cases h0 : many < 0
  · have e1 : textsErr ps many most = 1 := by rw [textsErr, if_pos (.inl h0)]
    rw [e1]
    clear e1
    go_enter Tryz.func70, Tryz.ntmps70
    go_wp2_with (go_at_call 96; refine (wrong_any x S E 1 _ H.out).mono ?_; rintro y w1 ⟨rfl, k1, k2⟩; have K1 := hid k1; have K2 := hid k2; clear k1 k2)
    go_end0
    exact rput_no (by omega) K1.out K2.out
  by_cases h1 : most < 0
  · have e1 : textsErr ps many most = 1 := by rw [textsErr, if_pos (.inr h1)]
    rw [e1]
    clear e1
    go_enter Tryz.func70, Tryz.ntmps70
    go_wp2_with (go_at_call 96; refine (wrong_any x S E 1 _ H.out).mono ?_; rintro y w1 ⟨rfl, k1, k2⟩; have K1 := hid k1; have K2 := hid k2; clear k1 k2)
    go_end0
    exact rput_no (by omega) K1.out K2.out
  by_cases h2 : many < (ps.length : Int)
  · have e1 : textsErr ps many most = 22 := by rw [textsErr, if_neg (by omega), if_pos h2]
    rw [e1]
    clear e1
    go_enter Tryz.func70, Tryz.ntmps70
    go_wp2_with (go_at_call 96; refine (wrong_any x S E 22 _ H.out).mono ?_; rintro y w1 ⟨rfl, k1, k2⟩; have K1 := hid k1; have K2 := hid k2; clear k1 k2)
    go_end0
    exact rput_no (by omega) K1.out K2.out
  obtain ⟨R, hR⟩ : ∃ R : Int, Hid (textsErr ps many most = R) := ⟨_, rfl⟩
  have hR2 := hR.out
  rw [textsErr, if_neg (by omega), if_neg h2] at hR2
  have HR2 := hid hR2
  rw [hR.out]
  clear hR2
  go_enter Tryz.func70, Tryz.ntmps70
  go_wp2_with (go_at_call 73; refine hD.mono ?_; rintro y w1 ⟨rfl, k1⟩; have K1 := hid k1; clear k1)
  clear hD
  go_loopw [8, 9] (fun s i w' => ∃ (k : Nat) (t : List UInt8), k ≤ ps.length ∧ i = .int .i64 k ∧ s = sv t ∧ Hid (t.length ≤ 9 + 9 * k + (ps.take k).flatten.length) ∧ Hid ((∀ p ∈ ps.drop k, (p.length : Int) ≤ most) ↔ ∀ p ∈ ps, (p.length : Int) ≤ most) ∧ Hid (t ++ ((ps.drop k).map wrText).flatten = wrTexts ps) ∧ Hid (Below w.heap.size w w')) (fun _ i _ => ps.length - (intOf i).toNat)
  case atStart => exact ⟨0, _, by omega, rfl, rfl, hid (by simp; omega), hid Iff.rfl, hid (by rw [List.drop_zero, wrTexts]), K1⟩
  case round =>
    obtain ⟨k, t, hk, rfl, rfl, htl, hr, ht, hbl⟩ := hrel
    by_cases hlt : k < ps.length
    · have hlt' : (k : Int) < (ps.length : Int) := by omega
      obtain ⟨a', cap', hu, hcs⟩ := HS.out.keep (S := fun _ => False) (Keep.ofBelow hbl.out) (fun _ _ _ _ _ h => h)
      cases hu
      obtain ⟨xx, hxx, hxb, hc⟩ := hcs k _ (List.getElem?_eq_getElem hlt)
      subst hxx
      have hpl := total_take ps k hlt
      have htk := take_flatten ps k hlt
      have htl2 := htl.out
      have ht2 := ht.out
      rw [List.drop_eq_getElem_cons hlt, texts_cons] at ht2
      by_cases hp : (ps[k].length : Int) ≤ most
      · have HR := hid (all_drop hlt hr.out hp)
        obtain ⟨p, hpv⟩ : ∃ p, Hid (sv ps[k] = .string p) := ⟨⟨ps[k].toArray⟩, hid rfl⟩
        obtain ⟨hpd, hpz⟩ := str_eta hpv.out
        rw [hpv.out] at hc
        rw [← hpz] at hp hpl
        rw [← hpd] at ht2
        have htk2 := congrArg List.length htk
        rw [List.length_append, ← hpz] at htk2
        have hq : ¬ most < (p.size : Int) := by omega
        have h9 := digs_len9 (n := p.size) (by omega)
        have hD2 := fun w => digits_any p.size (by omega) w
        have hadd := add_sv Tryz.prog 9 t (digs p.size) (by omega)
        have hadd2 := add_sv Tryz.prog 9 (t ++ digs p.size) p.data.toList (by rw [List.length_append, data_length]; omega)
        rw [sv_of, List.append_assoc, show digs p.size ++ p.data.toList = wrText p.data.toList from by rw [wrText, data_length]] at hadd2
        have HL2 : Hid ((t ++ wrText p.data.toList).length ≤ 9 + 9 * (k + 1) + (ps.take (k + 1)).flatten.length) := by
          show _ ≤ _
          rw [htk2, List.length_append, wrText, List.length_append, data_length]
          omega
        have HT2 : Hid ((t ++ wrText p.data.toList) ++ ((ps.drop (k + 1)).map wrText).flatten = wrTexts ps) := by
          show _ = _
          rw [List.append_assoc]; exact ht2
        have HD2 := hid hD2
        have hc' : wr.drew.cell? (xx.add k) = some (.string p) := hc
        clear hcs hpd hpz hpl htk htk2 htl2 ht2 h9 hD2
        go_wp2
        go_region_with ((go_at_call 73; refine (HD2.out _).mono ?_; rintro y w2 ⟨rfl, k2⟩; have K2 := hid (hbl.out.trans ((undrew k2).mono hbl.out.size)); have c2 := (k2.cell (p := xx.add k) (by rw [add_block]; exact hxb)).trans hc'; clear k2))
        all_goals go_wp2
        all_goals exact ⟨⟨k + 1, _, by omega, by go_num, rfl, HL2, HR, HT2, K2⟩, by simp [intOf]; omega⟩
      · have HR : R = 22 := by rw [← HR2.out, if_neg (not_all_drop (q := fun p : List UInt8 => (p.length : Int) ≤ most) hlt hp)]
        subst HR
        have R1 := hid (H.out.below hbl.out)
        obtain ⟨p, hpv⟩ : ∃ p, Hid (sv ps[k] = .string p) := ⟨⟨ps[k].toArray⟩, hid rfl⟩
        obtain ⟨hpd, hpz⟩ := str_eta hpv.out
        rw [hpv.out] at hc
        rw [← hpz] at hp
        have hq : most < (p.size : Int) := by omega
        clear hcs hpd hpz hpl htk htl2 ht2
        go_wp2_with (go_at_call 96; refine (wrong_any x S E 22 _ R1.out).mono ?_; rintro y w2 ⟨rfl, k1, k2⟩; have K3 := hid k1; have K4 := hid (But.below_trans hbl.out k2); clear k1 k2)
        go_end0
        exact rput_no (by omega) K3.out K4.out
    · obtain rfl : k = ps.length := by omega
      have hr2 := hr.out
      rw [List.drop_length] at hr2
      have e0 : R = 0 := by rw [← HR2.out, if_pos (hr2.1 (by simp))]
      have ht2 := ht.out
      rw [List.drop_length, List.map_nil, List.flatten_nil, List.append_nil] at ht2
      subst ht2
      subst e0
      have R1 := H.out.below hbl.out
      have c0 := R1.cell0
      have f0 : wr.frozen? ⟨x, 0, none⟩ = false := frozen_of_row _ _ _ _ _ R1
      have htl2 := htl.out
      rw [List.take_length] at htl2
      have hadd := add_sv Tryz.prog 9 S (wrTexts ps) (by unfold total at htot; omega)
      obtain ⟨z, hz⟩ : ∃ z, Hid (sv (S ++ wrTexts ps) = .string z) := ⟨_, rfl⟩
      rw [hz.out] at hadd
      clear R1 hr2 htl2
      go_wp2
      go_end0
      exact rput_yes H.out hz.out hbl.out
end Go.Proofs.YtmhgdcfmfcjagaaGreatDoor

namespace Go.Proofs.YtmhgdcfmfcjagaaGreatDoor
open Go.RowKit Cod
set_option maxRecDepth 100000 in
set_option maxHeartbeats 2000000 in
theorem xwHashes_any (x : Nat) (S : List UInt8) (E : Int) (u : Value) (ps : List (List UInt8)) (many : Int) (hll : ps.length ≤ 1000000000) (htot : total ps ≤ 1000000000) (w : World) (hs : Slc w u ps) (h : RWr w x S E) (hl : S.length ≤ 4611686018420000000) :
    Calls Tryz.prog 80 #[.pointer (some ⟨x, 0, none⟩), u, .int .i64 many] w (RPut w x S E (hashesErr ps many) (wrHashes ps)) := by
  have hx := h.lt
  have H := hid h
  have HS := hid hs
  obtain ⟨a, cap, rfl, _⟩ := hs
  have hD := digits_any ps.length (by omega) w
  have hd10 := digs_len9 (n := ps.length) (by omega)
  clear h
  by_cases h0 : many < 0
  · have e1 : hashesErr ps many = 1 := by rw [hashesErr, if_pos h0]
    rw [e1]
    clear e1
    go_enter Tryz.func80, Tryz.ntmps80
    go_wp2_with (go_at_call 96; refine (wrong_any x S E 1 _ H.out).mono ?_; rintro y w1 ⟨rfl, k1, k2⟩; have K1 := hid k1; have K2 := hid k2; clear k1 k2)
    go_end0
    exact rput_no (by omega) K1.out K2.out
  by_cases h2 : many < (ps.length : Int)
  · have e1 : hashesErr ps many = 22 := by rw [hashesErr, if_neg h0, if_pos h2]
    rw [e1]
    clear e1
    go_enter Tryz.func80, Tryz.ntmps80
    go_wp2_with (go_at_call 96; refine (wrong_any x S E 22 _ H.out).mono ?_; rintro y w1 ⟨rfl, k1, k2⟩; have K1 := hid k1; have K2 := hid k2; clear k1 k2)
    go_end0
    exact rput_no (by omega) K1.out K2.out
  obtain ⟨R, hR⟩ : ∃ R : Int, Hid (hashesErr ps many = R) := ⟨_, rfl⟩
  have hR2 := hR.out
  rw [hashesErr, if_neg h0, if_neg h2] at hR2
  have HR2 := hid hR2
  rw [hR.out]
  clear hR2
  go_enter Tryz.func80, Tryz.ntmps80
  go_wp2_with (go_at_call 73; refine hD.mono ?_; rintro y w1 ⟨rfl, k1⟩; have K1 := hid k1; clear k1)
  clear hD
  go_loopw [6, 7] (fun s i w' => ∃ (k : Nat) (t : List UInt8), k ≤ ps.length ∧ i = .int .i64 k ∧ s = sv t ∧ Hid (t.length ≤ 9 + 9 * k + (ps.take k).flatten.length) ∧ Hid ((∀ p ∈ ps.drop k, p.length = 32) ↔ ∀ p ∈ ps, p.length = 32) ∧ Hid (t ++ (ps.drop k).flatten = wrHashes ps) ∧ Hid (Below w.heap.size w w')) (fun _ i _ => ps.length - (intOf i).toNat)
  case atStart => exact ⟨0, _, by omega, rfl, rfl, hid (by simp; omega), hid Iff.rfl, hid (by rw [List.drop_zero, wrHashes]), K1⟩
  case round =>
    obtain ⟨k, t, hk, rfl, rfl, htl, hr, ht, hbl⟩ := hrel
    by_cases hlt : k < ps.length
    · have hlt' : (k : Int) < (ps.length : Int) := by omega
      obtain ⟨a', cap', hu, hcs⟩ := HS.out.keep (S := fun _ => False) (Keep.ofBelow hbl.out) (fun _ _ _ _ _ h => h)
      cases hu
      obtain ⟨xx, hxx, hxb, hc⟩ := hcs k _ (List.getElem?_eq_getElem hlt)
      subst hxx
      have hpl := total_take ps k hlt
      have htk := take_flatten ps k hlt
      have htl2 := htl.out
      have ht2 := ht.out
      rw [List.drop_eq_getElem_cons hlt, List.flatten_cons] at ht2
      by_cases hp : ps[k].length = 32
      · have HR := hid (all_drop hlt hr.out hp)
        obtain ⟨p, hpv⟩ : ∃ p, Hid (sv ps[k] = .string p) := ⟨⟨ps[k].toArray⟩, hid rfl⟩
        obtain ⟨hpd, hpz⟩ := str_eta hpv.out
        rw [hpv.out] at hc
        rw [← hpz] at hp hpl
        rw [← hpd] at ht2
        have htk2 := congrArg List.length htk
        rw [List.length_append, ← hpz] at htk2
        have hq : ((p.size : Int) == 32) = true := by rw [beq_iff_eq]; omega
        have hq2 : ((p.size : Int) != 32) = false := by simp; omega
        have hadd2 := add_sv Tryz.prog 9 t p.data.toList (by rw [data_length]; omega)
        rw [sv_of] at hadd2
        have HL2 : Hid ((t ++ p.data.toList).length ≤ 9 + 9 * (k + 1) + (ps.take (k + 1)).flatten.length) := by
          show _ ≤ _
          rw [htk2, List.length_append, data_length]
          omega
        have HT2 : Hid ((t ++ p.data.toList) ++ (ps.drop (k + 1)).flatten = wrHashes ps) := by
          show _ = _
          rw [List.append_assoc]; exact ht2
        clear hcs hpd hpz hpl htk htk2 htl2 ht2 hp
        go_wp2
        exact ⟨⟨k + 1, _, by omega, by go_num, rfl, HL2, HR, HT2, hbl⟩, by simp [intOf]; omega⟩
      · have HR : R = 20 := by rw [← HR2.out, if_neg (not_all_drop (q := fun p : List UInt8 => p.length = 32) hlt hp)]
        subst HR
        have R1 := hid (H.out.below hbl.out)
        obtain ⟨p, hpv⟩ : ∃ p, Hid (sv ps[k] = .string p) := ⟨⟨ps[k].toArray⟩, hid rfl⟩
        obtain ⟨hpd, hpz⟩ := str_eta hpv.out
        rw [hpv.out] at hc
        rw [← hpz] at hp
        have hq : ((p.size : Int) == 32) = false := by simp; omega
        have hq2 : ((p.size : Int) != 32) = true := by simp; omega
        clear hcs hpd hpz hpl htk htl2 ht2
        go_wp2_with (go_at_call 96; refine (wrong_any x S E 20 _ R1.out).mono ?_; rintro y w2 ⟨rfl, k1, k2⟩; have K3 := hid k1; have K4 := hid (But.below_trans hbl.out k2); clear k1 k2)
        go_end0
        exact rput_no (by omega) K3.out K4.out
    · obtain rfl : k = ps.length := by omega
      have hr2 := hr.out
      rw [List.drop_length] at hr2
      have e0 : R = 0 := by rw [← HR2.out, if_pos (hr2.1 (by simp))]
      have ht2 := ht.out
      rw [List.drop_length, List.flatten_nil, List.append_nil] at ht2
      subst ht2
      subst e0
      have R1 := H.out.below hbl.out
      have c0 := R1.cell0
      have f0 : wr.frozen? ⟨x, 0, none⟩ = false := frozen_of_row _ _ _ _ _ R1
      have htl2 := htl.out
      rw [List.take_length] at htl2
      have hadd := add_sv Tryz.prog 9 S (wrHashes ps) (by unfold total at htot; omega)
      obtain ⟨z, hz⟩ : ∃ z, Hid (sv (S ++ wrHashes ps) = .string z) := ⟨_, rfl⟩
      rw [hz.out] at hadd
      clear R1 hr2 htl2
      go_wp2
      go_end0
      exact rput_yes H.out hz.out hbl.out
end Go.Proofs.YtmhgdcfmfcjagaaGreatDoor

namespace Go.Proofs.YtmhgdcfmfcjagaaGreatDoor
open Go.RowKit Cod
namespace Msg
structure Abs (L : LS → LS) : Prop where
  bad : ∀ e q, ∃ f r, L (.bad e, q) = (.bad f, r)
  wr : ∀ s : LS, s.2 = true → (L s).2 = true
theorem Abs.mid {L : LS → LS} (h : Abs L) {s : LS} {out : List UInt8} (e : L s = (.ok out, false)) : ∃ m, s = (.ok m, false) := by
  obtain ⟨st, q⟩ := s
  cases q with
  | true =>
    have := h.wr (st, true) rfl
    rw [e] at this
    cases this
  | false =>
    cases st with
    | bad f =>
      obtain ⟨f', r, e'⟩ := h.bad f false
      rw [e] at e'
      cases e'
    | ok m => exact ⟨m, rfl⟩
theorem Abs.id : Abs id := ⟨fun e q => ⟨e, q, rfl⟩, fun _ h => h⟩
theorem Abs.comp {L1 L2 : LS → LS} (h1 : Abs L1) (h2 : Abs L2) : Abs (fun s => L2 (L1 s)) :=
  ⟨fun e q => by
    obtain ⟨f, r, e1⟩ := h1.bad e q
    obtain ⟨f2, r2, e2⟩ := h2.bad f r
    exact ⟨f2, r2, by rw [e1, e2]⟩, fun s h => h2.wr _ (h1.wr s h)⟩
theorem abs_lif (ok : Bool) (e : Int) (l : List UInt8) : Abs (lif ok e l) :=
  ⟨fun f q => by
    rw [lif]
    split
    · exact ⟨f, q, rfl⟩
    · exact ⟨f, true, rfl⟩, fun s h => by
    rw [lif]
    split
    · exact h
    · rfl⟩
def Bk {α : Type} (L : LS → LS) (R : TS → α × TS) (v : α) : Prop :=
  ∀ acc out, L (.ok acc, false) = (.ok out, false) → ∃ bs, out = acc ++ bs ∧ ∀ rest k, R (⟨bs ++ rest, k, 0⟩, false) = (v, (⟨rest, k + bs.length, 0⟩, false))
theorem lif_ok {ok : Bool} {e : Int} {l acc out : List UInt8} (h : lif ok e l (.ok acc, false) = (.ok out, false)) : ok = true ∧ e = 0 ∧ out = acc ++ l := by
  rw [lif] at h
  split at h
  · rename_i h1
    have h2 : (WSt.ok acc).put e l = .ok out := (Prod.mk.inj h).1
    rw [WSt.put] at h2
    split at h2
    · rename_i h3
      exact ⟨h1, h3, by injection h2 with h2; exact h2.symm⟩
    · cases h2
  · cases (Prod.mk.inj h).2
theorem bk_lif {α : Type} (R : List UInt8 → Rd α) (okf : α → Bool) (d v : α) (ok : Bool) (e : Int) (l : List UInt8) (hR : ok = true → e = 0 → okf v = true ∧ ∀ rest, R (l ++ rest) = .good v rest) : Bk (lif ok e l) (tk R okf d) v := fun acc out h => by
  obtain ⟨h1, h2, h3⟩ := lif_ok h
  obtain ⟨g1, g2⟩ := hR h1 h2
  refine ⟨l, h3, fun rest k => ?_⟩
  unfold tk
  simp only [g2, RS.val, RS.step, if_true, g1, Bool.not_true, Bool.or_false, List.length_append, Nat.add_sub_cancel]
theorem bk_mark (n lo hi : Int) : Bk (lMark n lo hi) (tMark lo hi) n.toNat := fun acc out h => by
  obtain ⟨h1, h2, h3⟩ := lif_ok h
  have hn : 0 ≤ n ∧ n ≤ 255 := by
    rw [byteErr] at h2
    split at h2
    · cases h2
    · omega
  exact bk_lif rdByte (fun m => wi (m : Int) lo hi) 0 n.toNat _ _ _ (fun _ _ => ⟨by rw [Int.toNat_of_nonneg hn.1]; exact h1, fun rest => by
    show Rd.good (UInt8.ofNat n.toNat).toNat rest = _
    congr 1
    simp; omega⟩) acc out h
theorem bk_size (n : Int) : Bk (lSize n) tSize n.toNat := fun acc out h => by
  obtain ⟨h1, h2, h3⟩ := lif_ok h
  have hn := h1
  rw [isSz, wi_iff] at hn
  exact bk_lif rdNum (fun m => isSz (m : Int)) 0 n.toNat _ _ _ (fun _ _ => ⟨by rw [Int.toNat_of_nonneg hn.1]; exact h1, fun rest => num_there (by rw [top]; omega) rest⟩) acc out h
theorem bk_texts (l : List (List UInt8)) (least many most : Int) (hm : many ≤ 4096) (ho : most ≤ 4096) : Bk (lTexts l least many most) (tTexts least many most) l := fun acc out h => by
  obtain ⟨h1, h2, h3⟩ := lif_ok h
  rw [textsErr] at h2
  split at h2
  · cases h2
  split at h2
  · cases h2
  split at h2
  · rename_i a1 a2 a3
    exact bk_lif (fun b => rdTexts b many most) (fun l => decide (least ≤ (l.length : Int))) [] l _ _ _ (fun _ _ => ⟨h1, fun rest => texts_there (by rw [top]; omega) (by omega) (by omega) (fun t ht => ⟨by have := a3 t ht; rw [top]; omega, a3 t ht⟩) rest⟩) acc out h
  · cases h2
theorem bk_hashes (l : List (List UInt8)) : Bk (lHashes l) tHashes l := fun acc out h => by
  obtain ⟨h1, h2, h3⟩ := lif_ok h
  rw [hashesErr] at h2
  split at h2
  · cases h2
  split at h2
  · cases h2
  split at h2
  · rename_i a1 a2 a3
    exact bk_lif (fun b => rdHashes b 32768) (fun _ => true) [] l _ _ _ (fun _ _ => ⟨rfl, fun rest => hashes_there (by rw [top]; omega) (by omega) a3 rest⟩) acc out h
  · cases h2
theorem bk_root (t : List UInt8) : Bk (lRoot t) tRoot t := fun acc out h => by
  obtain ⟨h1, h2, h3⟩ := lif_ok h
  have h32 : t.length = 32 := of_decide_eq_true h1
  exact bk_lif (fun b => rdRaw b 32) (fun _ => true) [] t _ _ _ (fun _ _ => ⟨rfl, fun rest => by have := raw_there t rest; rw [h32] at this; exact this⟩) acc out h
theorem size_pos {n : Int} {acc out : List UInt8} (h : lSize n (.ok acc, false) = (.ok out, false)) : (n.toNat : Int) = n := by
  obtain ⟨h1, _, _⟩ := lif_ok h
  rw [isSz, wi_iff] at h1
  exact Int.toNat_of_nonneg h1.1
end Msg
end Go.Proofs.YtmhgdcfmfcjagaaGreatDoor

namespace Go.Proofs.YtmhgdcfmfcjagaaGreatDoor
open Go.RowKit Cod
namespace Msg
def DL (w : World) (x : Nat) (out : List UInt8) (e : Ending) (w' : World) : Prop := e = .returned (.tuple #[]) ∧ RWr w' x out 0 ∧ Keep (fun k => k = x) w w'
theorem RPut.ok {w w' : World} {x : Nat} {S l : List UInt8} {e : Int} {r : Ending} (h : RPut w x S 0 e l r w') (he : e = 0) : r = .returned (.tuple #[]) ∧ RWr w' x (S ++ l) 0 ∧ Keep (fun k => k = x) w w' := by
  obtain ⟨h1, h2, h3⟩ := h
  subst he
  rw [if_pos rfl, if_pos rfl] at h2
  exact ⟨h1, h2, Keep.ofBut h3 rfl⟩
theorem total_le : ∀ (ps : List (List UInt8)), (∀ p ∈ ps, p.length ≤ 4096) → total ps ≤ ps.length * 4096
  | [], _ => Nat.zero_le _
  | p :: ps, h => by
    have h1 := total_le ps (fun q hq => h q (by simp [hq]))
    have h2 : p.length ≤ 4096 := h p (by simp)
    unfold total at h1 ⊢
    rw [List.flatten_cons, List.length_append, List.length_cons, Nat.add_mul]
    omega
end Msg
end Go.Proofs.YtmhgdcfmfcjagaaGreatDoor

namespace Go.Proofs.YtmhgdcfmfcjagaaGreatDoor
open Go.RowKit Cod
namespace Msg
theorem mark_eq {k lo up : Int} (hw : wi k lo up = true) (h0 : 0 ≤ k) (h1 : k ≤ 255) (S : List UInt8) : lMark k lo up (.ok S, false) = (.ok (S ++ [UInt8.ofNat k.toNat]), false) := by
  rw [lMark, lif, if_pos hw, byteErr, if_neg (by omega)]
  rfl
end Msg
end Go.Proofs.YtmhgdcfmfcjagaaGreatDoor

namespace Go.Proofs.YtmhgdcfmfcjagaaGreatDoor
open Go.RowKit Cod
namespace Msg
theorem lif_iff {ok : Bool} {e : Int} {b S : List UInt8} : (∃ out, lif ok e b (.ok S, false) = (.ok out, false)) ↔ ok = true ∧ e = 0 := by
  constructor
  · rintro ⟨out, h⟩
    exact ⟨(lif_ok h).1, (lif_ok h).2.1⟩
  · rintro ⟨h1, h2⟩
    refine ⟨S ++ b, ?_⟩
    rw [lif, if_pos h1, h2]
    rfl
theorem sz_num {n : Int} (h : isSz n = true) : numErr n = 0 := by
  rw [isSz, wi_iff] at h
  rw [numErr, if_neg (by omega)]
theorem size_iff {n : Int} {S : List UInt8} : (∃ out, lSize n (.ok S, false) = (.ok out, false)) ↔ isSz n = true := by
  rw [lSize, lif_iff]
  exact ⟨fun h => h.1, fun h => ⟨h, sz_num h⟩⟩
theorem isSz0 : isSz 0 = true := rfl
end Msg
end Go.Proofs.YtmhgdcfmfcjagaaGreatDoor

namespace Go.Proofs.YtmhgdcfmfcjagaaGreatDoor
open Go.RowKit Cod
namespace Msg
set_option maxRecDepth 100000 in
set_option maxHeartbeats 2000000 in
theorem f_asks {w : World} {base lo0 b c d : Nat} {v : Value} {s : LS} {x : Ask} {ul ue ua : Value} {t : Ask} {tl te ta : Value} {l : List Ask} (h : Qa w base b c d v s x ul ue ua t tl te ta) (hu : As w lo0 base ua l) (hn : x.n = l.length) (hl : wi (l.length : Int) 1 64 = true) (hg : ∀ x ∈ l, Gd x 3 7) (hm : Sm s 29000000000000) :
    Calls Tryz.prog 111 #[.pointer (some ⟨d, 0, none⟩)] w fun e w' => e = .returned (.tuple #[]) ∧ FPost w base b c d v (lFq x (lAsks l) .asks s) x ul ue ua (setF x .asks t) w' := by
  have i1 := layAsks_yes h.ly.drew (hu.keep (S := fun _ => False) (Keep.refl _ w).drew (fun _ _ _ e => e)) hl hg hm
  obtain ⟨p1, q1, rfl⟩ := hu.shape
  have c0 : w.cell? ⟨d, 0, none⟩ = some (lay c) := by rw [cell_of_row _ _ _ _ _ _ h.row]; rfl
  have c4 : w.cell? ⟨d, 7, none⟩ = some (.slice p1 l.length q1) := by rw [cell_of_row _ _ _ _ _ _ h.row]; rfl
  rw [lay] at c0
  have mm := m_laying_asks ⟨c, 0, none⟩
  have HQ := hid h
  have HN := hid hn
  clear h hm hu hn hg hl
  go_enter Tryz.func111, Tryz.ntmps111
  go_region_held3 (fun w' => w'.cell? ⟨d, 0, none⟩ = some (.iface 96 (.pointer (some ⟨c, 0, none⟩))) ∧ w'.cell? ⟨d, 7, none⟩ = some (.slice p1 l.length q1)) (first | exact ⟨c0, c4⟩ | exact S2 | exact S3) (first | (go_at_call 150; (with_reducible refine i1.mono ?_); rintro e w2 ⟨rfl, hl⟩; have hl := hl.drew; have hrow := HQ.out.row2 hl; have g0 : w2.frozen? ⟨d, 14, none⟩ = false := frozen_of_row _ _ _ _ _ hrow; have e0 : w2.cell? ⟨d, 14, none⟩ = some ta := (by rw [cell_of_row _ _ _ _ _ _ hrow]; rfl); have S2 : w2.cell? ⟨d, 0, none⟩ = some (lay c) ∧ w2.cell? ⟨d, 7, none⟩ = some (.slice p1 l.length q1) := ⟨by rw [cell_of_row _ _ _ _ _ _ hrow]; rfl, by rw [cell_of_row _ _ _ _ _ _ hrow]; rfl⟩; have hrow3 := row_set 14 (.slice p1 l.length q1) hrow rfl; have S3 : (w2.setCell ⟨d, 14, none⟩ (.slice p1 l.length q1)).cell? ⟨d, 0, none⟩ = some (lay c) ∧ (w2.setCell ⟨d, 14, none⟩ (.slice p1 l.length q1)).cell? ⟨d, 7, none⟩ = some (.slice p1 l.length q1) := ⟨by rw [cell_of_row _ _ _ _ _ _ hrow3]; rfl, by rw [cell_of_row _ _ _ _ _ _ hrow3]; rfl⟩; rw [lay] at S2 S3; have HL := hid hl; clear hl hrow hrow3))
  go_end0
  exact ⟨rfl, HQ.out.put HL.out 14 _ _ _ _ _ rfl HQ.out.t1 HQ.out.t2 ⟨p1, q1, by rw [show (setF x .asks t).n = x.n from rfl, HN.out]⟩⟩
theorem request_yes {w : World} {base lo0 b c : Nat} {v : Value} {s : LS} {x : Ask} {ul ue ua : Value} {l : List Ask} (h : Ly w base b c v s) (hx : Ak w base x ul ue ua) (hg : Gd x 1 12) (hm : Sm s 1000000000000) (hu : x.kind = 12 → As w lo0 base ua l ∧ x.n = l.length ∧ wi (l.length : Int) 1 64 = true ∧ ∀ x ∈ l, Gd x 3 7) :
    Calls Tryz.prog 30 #[.pointer (some ⟨c, 0, none⟩), akV x ul ue ua, .int .i64 1, .int .i64 12] w fun e w' => e = .returned (.tuple #[]) ∧ Lo w base b c v (lRequest x l s) w' := by
  have hk := wi_iff.1 hg.wi
  have h12 : .asks ∈ flds x.kind.toNat → x.kind = 12 := fun e => by
    obtain ⟨n, hn⟩ := Int.eq_ofNat_of_zero_le (show 0 ≤ x.kind by omega)
    rw [hn, Int.toNat_natCast] at e
    rw [hn] at hk ⊢
    have h1 : 1 ≤ n := by omega
    have h2 : n ≤ 12 := by omega
    match n, h1, h2 with
    | 1, _, _ => simp [flds] at e
    | 2, _, _ => simp [flds] at e
    | 3, _, _ => simp [flds] at e
    | 4, _, _ => simp [flds] at e
    | 5, _, _ => simp [flds] at e
    | 6, _, _ => simp [flds] at e
    | 7, _, _ => simp [flds] at e
    | 8, _, _ => simp [flds] at e
    | 9, _, _ => simp [flds] at e
    | 10, _, _ => simp [flds] at e
    | 11, _, _ => simp [flds] at e
    | 12, _, _ => rfl
  have hd : .asks ∈ flds x.kind.toNat → ∀ s m, Sm s m → Sm (lAsks l s) (m + 27487790694400) := fun e s m hs => by
    obtain ⟨_, _, h3, h4⟩ := hu (h12 e)
    have hle := (wi_iff.1 h3).2
    rw [lAsks, if_pos h3]
    have h9 : (digs (l.length : Int).toNat).length ≤ 9 := digs_len9 (by omega)
    have h5 : Sm (lNum (l.length : Int) s) (m + 9) := (hs.lif _ _ _).mono (by omega)
    have := sm_asks l h4 h5
    exact this.mono (by have : l.length ≤ 64 := (by omega); have := Nat.mul_le_mul_right 343597383680 this; omega)
  by_cases h0 : x.kind = 12
  · obtain ⟨u1, u2, u3, u4⟩ := hu h0
    have hfl : flds x.kind.toNat = [.asks] := by rw [h0]; rfl
    refine reqL_yes h hx hg.fit hm (by omega) (K0 := 27487790694400) (by omega) (M := 29000000000000) (by rw [hfl]; decide) 1 12 hg.wi (by omega) (by omega) (lAsks l) (fun d g hgm => ?_) hd hg.self
    rw [hfl, List.mem_singleton] at hgm
    subst hgm
    intro w' v' s' t tl te ta hb hQ hS
    exact f_asks hQ (u1.bl hb) u2 u3 u4 hS
  · refine reqL_yes h hx hg.fit hm (by omega) (K0 := 68719476736) (by omega) (M := 29000000000000) (by have := flds_len x.kind.toNat; have : ((flds x.kind.toNat).length - 1) * 68719476736 ≤ 2 * 68719476736 := Nat.mul_le_mul_right _ (by omega); omega) 1 12 hg.wi (by omega) (by omega) (lAsks l) (fun d g hgm => fc_six (by omega) hg.fit g (fun e => h0 (h12 (e ▸ hgm)))) (fun e => absurd (h12 e) h0) hg.self
end Msg
end Go.Proofs.YtmhgdcfmfcjagaaGreatDoor

namespace Go.Proofs.YtmhgdcfmfcjagaaGreatDoor
open Go.RowKit Cod
namespace Msg
set_option maxRecDepth 100000 in
set_option maxHeartbeats 1000000 in
theorem frame_yes {w : World} {base b c : Nat} {v : Value} {p : List UInt8} (h : Ly w base b c v (.ok p, false)) (T : Lay w) (hp : p.length ≤ 1048576) :
    Calls Tryz.prog 31 #[.pointer (some ⟨c, 0, none⟩)] w fun e w' => e = .returned (.tuple #[sv (wrText p), .int .i64 0]) ∧ Below w.heap.size w w' := by
  have c0 := h.c0
  have i1 := wDone_any base b v (.ok p) w T h.wri
  rw [show (WSt.ok p).text = p from rfl, show (WSt.ok p).err = 0 from rfl, show sv p = .string ⟨p.toArray⟩ from rfl] at i1
  have HY := hid h
  clear h T
  go_enter Tryz.func31, Tryz.ntmps31
  go_wp2_with (first
    | (go_at_call 62; refine i1.mono ?_; rintro e w1 ⟨rfl, h1⟩; have d1 := (HY.out.below h1).c1; have i2 := frame_any ⟨p.toArray⟩ w1; rw [if_neg (by rw [sv_size]; omega), sv_data] at i2; have H1 := hid h1; clear h1)
    | (go_at_call 63; refine i2.mono ?_; rintro e w2 ⟨rfl, h2⟩; have H2 := hid (H1.out.trans (h2.mono H1.out.size)); clear h2))
  go_ret2
  exact ⟨rfl, H2.out⟩
theorem Ak.mono {w : World} {base base' : Nat} {x : Ask} {ul ue ua : Value} (h : Ak w base x ul ue ua) (hb : base ≤ base') : Ak w base' x ul ue ua :=
  ⟨fun y n c e h0 => Nat.lt_of_lt_of_le (h.l1 y n c e h0) hb, fun y n c e h0 => Nat.lt_of_lt_of_le (h.l2 y n c e h0) hb, h.s1, h.s2, h.s3⟩
theorem Ak.bl {w w' : World} {base : Nat} {x : Ask} {ul ue ua : Value} (h : Ak w base x ul ue ua) (hb : Below base w w') : Ak w' base x ul ue ua := ⟨h.l1, h.l2, h.l1.slcI h.s1 hb, h.l2.slc h.s2 hb, h.s3⟩
theorem El.monoX {w : World} {lo hi hi' g j : Nat} {x : Ask} (h : El w lo hi g j x) (hb : hi ≤ hi') : El w lo hi' g j x := by
  obtain ⟨ul, ue, ua, c0, c1, c2, c3, c4, c5, c6, n1, n2, s1, s2, s3⟩ := h
  exact ⟨ul, ue, ua, c0, c1, c2, c3, c4, c5, c6, n1.mono (Nat.le_refl _) hb, n2.mono (Nat.le_refl _) hb, s1, s2, s3⟩
theorem As.monoX {w : World} {lo hi hi' : Nat} {u : Value} {l : List Ask} (h : As w lo hi u l) (hb : hi ≤ hi') : As w lo hi' u l := by
  rcases h with h | ⟨g, cap, rfl, h1, h2, h3, h4⟩
  · exact .inl h
  · exact .inr ⟨g, cap, rfl, h1, by omega, h3, fun j x hx => (h4 j x hx).monoX hb⟩
structure Rq (w : World) (x : Ask) (l : List Ask) (ul ue ua : Value) : Prop where
  ak : Ak w w.heap.size x ul ue ua
  gd : Gd x 1 12
  ls : x.kind = 12 → As w 0 w.heap.size ua l ∧ x.n = l.length ∧ wi (l.length : Int) 1 64 = true ∧ ∀ x ∈ l, Gd x 3 7
set_option maxRecDepth 100000 in
set_option maxHeartbeats 2000000 in
theorem encode_yes {w : World} {x : Ask} {l : List Ask} {ul ue ua : Value} {p : List UInt8} (T : Lay w) (h : Rq w x l ul ue ua) (hq : lRequest x l (.ok [], false) = (.ok p, false)) (hp : p.length ≤ 1048576) :
    Calls Tryz.prog 9 #[akV x ul ue ua] w fun e w' => e = .returned (.tuple #[sv (wrText p), .int .i64 0]) ∧ Below w.heap.size w w' := by
  obtain ⟨p1, q1, rfl, _⟩ := id h.ak.s1
  obtain ⟨p2, q2, rfl, _⟩ := id h.ak.s2
  obtain ⟨p3, q3, rfl⟩ := id h.ak.s3
  have hT := T.lt
  have H := hid h
  have HT := hid T
  have HQ := hid hq
  have hw := h.gd.wi
  clear h T hq
  rw [akV]
  go_enter Tryz.func9, Tryz.ntmps9
  go_wp2_with (first
    | (go_at_call 28; refine (within_any _ _ _ _).mono ?_; rw [hw]; rintro e w' ⟨rfl, hw'⟩; rw [hw']; clear hw' w')
    | (go_at_call 29; fail))
  obtain ⟨w1, hw1⟩ : ∃ w1, Hid (w.alloc (.cells #[.int .i64 x.kind, .int .i64 x.a, .int .i64 x.b, .int .i64 x.size, .slice p1 x.list.length q1, .slice p2 x.ent.length q2, .slice p3 x.n q3] 26) = w1) := ⟨_, rfl⟩
  have b1 : Below w.heap.size w w1 := by rw [← hw1.out]; exact (Below.refl _ _).alloc (Nat.le_refl _) _
  have r1 : w1.heap[w.heap.size]? = some (.cells #[.int .i64 x.kind, .int .i64 x.a, .int .i64 x.b, .int .i64 x.size, .slice p1 x.list.length q1, .slice p2 x.ent.length q2, .slice p3 x.n q3] 26 (0, 0)) := by rw [← hw1.out]; exact heap_alloc_new _ _
  have z1 : w1.heap.size = w.heap.size + 1 := by rw [← hw1.out]; exact size_alloc _ _
  rw [hw1.out]
  go_at_call 29
  refine (newWriter_any w1).mono ?_
  rintro e w2 ⟨rfl, n1, n2, n3⟩
  obtain ⟨w3, hw3⟩ : ∃ w3, Hid (w2.alloc (.cells #[.pointer (some ⟨w1.heap.size, 0, none⟩), .bool false] 63) = w3) := ⟨_, rfl⟩
  have b3 : Below w2.heap.size w2 w3 := by rw [← hw3.out]; exact (Below.refl _ _).alloc (Nat.le_refl _) _
  have hr3 : w3.heap[w2.heap.size]? = some (.cells #[.pointer (some ⟨w1.heap.size, 0, none⟩), .bool false] 63 (0, 0)) := by rw [← hw3.out]; exact heap_alloc_new _ _
  have bb : Below w.heap.size w w3 := b1.trans ((n2.mono (by omega)).trans (b3.mono (by have := n2.size; omega)))
  have hY : Ly w3 w1.heap.size w1.heap.size w2.heap.size (.slice none 0 0) (.ok [], false) := ⟨hr3, n1.below b3, by omega, fun e => (by cases e), n2.size⟩
  have r3 : w2.heap[w.heap.size]? = some (.cells #[.int .i64 x.kind, .int .i64 x.a, .int .i64 x.b, .int .i64 x.size, .slice p1 x.list.length q1, .slice p2 x.ent.length q2, .slice p3 x.n q3] 26 (0, 0)) := (n2.block _ (by omega)).trans r1
  have c0 : w2.cell? ⟨w.heap.size, 0, none⟩ = some (.int .i64 x.kind) := by rw [cell_of_row _ _ _ _ _ _ r3]; rfl
  have c1 : w2.cell? ⟨w.heap.size, 1, none⟩ = some (.int .i64 x.a) := by rw [cell_of_row _ _ _ _ _ _ r3]; rfl
  have c2 : w2.cell? ⟨w.heap.size, 2, none⟩ = some (.int .i64 x.b) := by rw [cell_of_row _ _ _ _ _ _ r3]; rfl
  have c3 : w2.cell? ⟨w.heap.size, 3, none⟩ = some (.int .i64 x.size) := by rw [cell_of_row _ _ _ _ _ _ r3]; rfl
  have c4 : w2.cell? ⟨w.heap.size, 4, none⟩ = some (.slice p1 x.list.length q1) := by rw [cell_of_row _ _ _ _ _ _ r3]; rfl
  have c5 : w2.cell? ⟨w.heap.size, 5, none⟩ = some (.slice p2 x.ent.length q2) := by rw [cell_of_row _ _ _ _ _ _ r3]; rfl
  have c6 : w2.cell? ⟨w.heap.size, 6, none⟩ = some (.slice p3 x.n q3) := by rw [cell_of_row _ _ _ _ _ _ r3]; rfl
  have hm0 : Sm (WSt.ok [], false) 1000000000000 := fun bs e => by injection e with e; subst e; simp
  have i1 := request_yes (l := l) hY ((H.out.ak.bl bb).mono (by omega : w.heap.size ≤ w1.heap.size)) H.out.gd hm0 (fun e => by
    obtain ⟨a1, a2, a3, a4⟩ := H.out.ls e
    exact ⟨(a1.bl bb).monoX (by omega), a2, a3, a4⟩)
  rw [HQ.out, akV] at i1
  have HY := hid hY
  have BB := hid bb
  have hz3 : w1.heap.size < w3.heap.size := by have := n2.size; have := b3.size; omega
  have HT3 : Hid (Lay w3) := HT.out.below bb hT
  have hT1 : 1 ≤ w1.heap.size := by omega
  have hle : w.heap.size ≤ w1.heap.size := by omega
  have hlt2 : w.heap.size < w2.heap.size := by have := n2.size; omega
  have hne2 : ¬ w.heap.size = w2.heap.size := by omega
  clear n1 n2 n3 b1 b3 r1 z1 r3 hr3 hY bb hm0
  rw [← hw3.out] at i1
  go_wp2_with (first
    | (go_at_call 30; refine i1.mono ?_; rintro e w5 ⟨rfl, hlo⟩; rw [hw3.out] at hlo; obtain ⟨v', y1, y2, y3⟩ := hlo; have bl5 := Lo.bl HY.out y2; have i2 := frame_yes y1 (HT3.out.below bl5 hT1) hp; have B5 := hid (BB.out.trans (bl5.mono hle)); clear y1 y2 y3 bl5)
    | (go_at_call 31; refine i2.mono ?_; rintro e w6 ⟨rfl, h6⟩; have B6 := hid (B5.out.trans (h6.mono B5.out.size)); clear h6))
  go_ret2
  exact ⟨rfl, B6.out⟩
end Msg
end Go.Proofs.YtmhgdcfmfcjagaaGreatDoor
