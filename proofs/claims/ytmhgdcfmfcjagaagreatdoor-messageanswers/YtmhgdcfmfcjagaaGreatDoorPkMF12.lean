import Derived.Test.YtmhgdcfmfcjagaaGreatDoorPkMF11
import Derived.Test.YtmhgdcfmfcjagaaGreatDoorPkMF8
import Derived.Test.YtmhgdcfmfcjagaaGreatDoorPkXR3
import Derived.Test.YtmhgdcfmfcjagaaGreatDoorPkMT6
import Derived.Test.YtmhgdcfmfcjagaaGreatDoorPkMN1
import Derived.Test.YtmhgdcfmfcjagaaGreatDoorPkMX2
import Derived.Deep.Slices
import Derived.Test.YtmhgdcfmfcjagaaGreatDoorPkYW2
import Derived.Test.YtmhgdcfmfcjagaaGreatDoorPkMVQ
import Derived.Test.YtmhgdcfmfcjagaaGreatDoorPkMU4
namespace Go.Proofs.YtmhgdcfmfcjagaaGreatDoor
open Go.RowKit Cod
namespace Msg
theorem num_top (st : RS) : st.val 0 (rdNum st.rest) ≤ 4611686018427387904 := sz_top (st, false)
theorem ha_few (st : RS) : (st.val [] (rdHashes st.rest 32768)).length ≤ 32768 := by
  rcases val_or st [] (rdHashes st.rest 32768) with h | ⟨v, r, h, e⟩
  · rw [h]; simp
  · rw [e]; have := (hashes_back h).2.2.1; omega
theorem en_few (st : RS) : (st.val [] (rdTexts st.rest 4096 1000)).length ≤ 32768 := by
  rcases val_or st [] (rdTexts st.rest 4096 1000) with h | ⟨v, r, h, e⟩
  · rw [h]; simp
  · rw [e]; have := (texts_back h).2.2.1; omega
structure FewR (x : Part) : Prop where
  k2 : 0 ≤ x.size ∧ x.size ≤ 4611686018427387904
  k3 : 0 ≤ x.a ∧ x.a ≤ 4611686018427387904
  hl : x.hs.length ≤ 32768
  el : x.ent.length ≤ 32768
theorem FewR.fit {x : Part} (h : FewR x) : PFit x := ⟨⟨by have := h.k2.1; omega, by have := h.k2.2; omega⟩, ⟨by have := h.k3.1; omega, by have := h.k3.2; omega⟩, by have := h.hl; unfold maxLen; omega, by have := h.el; unfold maxLen; omega⟩
theorem fewR_of (k : Int) : FewR (Part.of k) := ⟨⟨Int.le_refl 0, by show (0 : Int) ≤ _; omega⟩, ⟨Int.le_refl 0, by show (0 : Int) ≤ _; omega⟩, by simp [Part.of], by simp [Part.of]⟩
theorem fewR_dFr (g : Fr) (p : DQ) (h : FewR p.1) : FewR (dFr g p).1 := by
  have hn := num_top p.2
  cases g with
  | size => exact ⟨⟨by show (0 : Int) ≤ ((p.2.val 0 (rdNum p.2.rest) : Nat) : Int); omega, by show ((p.2.val 0 (rdNum p.2.rest) : Nat) : Int) ≤ _; omega⟩, h.k3, h.hl, h.el⟩
  | a => exact ⟨h.k2, ⟨by show (0 : Int) ≤ ((p.2.val 0 (rdNum p.2.rest) : Nat) : Int); omega, by show ((p.2.val 0 (rdNum p.2.rest) : Nat) : Int) ≤ _; omega⟩, h.hl, h.el⟩
  | over => exact ⟨h.k2, h.k3, h.hl, h.el⟩
  | root => exact ⟨h.k2, h.k3, h.hl, h.el⟩
  | hashes => exact ⟨h.k2, h.k3, ha_few p.2, h.el⟩
  | entries => exact ⟨h.k2, h.k3, h.hl, en_few p.2⟩
  | parts => exact h
theorem fewR_dFrs : ∀ (fs : List Fr) (p : DQ), FewR p.1 → FewR (dFrs fs p).1
  | [], _, h => h
  | g :: fs, p, h => fewR_dFrs fs (dFr g p) (fewR_dFr g p h)
theorem dPrt_ok (st : RS) : FewR (dPrt st).1 ∧ mrB (dPrt st).1 (pw (dPrt st).1) = false := by
  rw [dPrt]
  split
  · split
    · refine ⟨fewR_dFr _ _ (fewR_of 0), ?_⟩
      generalize (st.step (rdByte st.rest)).step (rdByte (st.step (rdByte st.rest)).rest) = st2
      by_cases hr : st2.val [] (rdRaw st2.rest 32) = []
      · simp [dFr, pw, Part.of, hr, mrB, hasB]
      · simp [dFr, pw, Part.of, hr, mrB, hasB]
    · refine ⟨fewR_dFr _ _ (fewR_of 0), ?_⟩
      simp [dFr, pw, Part.of, mrB, hasB]
  · refine ⟨fewR_of _, ?_⟩
    simp [pw, Part.of, mrB, hasB]
theorem dManyP_ok : ∀ (n : Nat) (l : List Part) (st : RS), (∀ y ∈ l, FewR y ∧ y.n = 0 ∧ mrB y (pw y) = false) → (∀ y ∈ (dManyP n l st).1, FewR y ∧ y.n = 0 ∧ mrB y (pw y) = false) ∧ (dManyP n l st).1.length = l.length + n
  | 0, l, st, h => ⟨h, rfl⟩
  | n + 1, l, st, h => by
    obtain ⟨a1, a2⟩ := dPrt_ok st
    obtain ⟨b1, b2⟩ := dManyP_ok n (l ++ [(dPrt st).1]) (dPrt st).2 fun y hy => by
      rcases List.mem_append.1 hy with hy | hy
      · exact h y hy
      · rw [List.mem_singleton.1 hy]; exact ⟨a1, dPrt_n st, a2⟩
    refine ⟨b1, ?_⟩
    rw [dManyP, b2, List.length_append]
    simp; omega
def dAllR (K : Nat) (st : RS) : (Part × List Part) × RS :=
  if st.val 0 (rdByte st.rest) = 0 then
    (if K = 12 then
      ((⟨0, 0, 0, 0, [], [], [], (dManyP (min ((st.step (rdByte st.rest)).val 0 (rdNum (st.step (rdByte st.rest)).rest)) 65) [] ((st.step (rdByte st.rest)).step (rdNum (st.step (rdByte st.rest)).rest))).1.length⟩,
        (dManyP (min ((st.step (rdByte st.rest)).val 0 (rdNum (st.step (rdByte st.rest)).rest)) 65) [] ((st.step (rdByte st.rest)).step (rdNum (st.step (rdByte st.rest)).rest))).1),
        (dManyP (min ((st.step (rdByte st.rest)).val 0 (rdNum (st.step (rdByte st.rest)).rest)) 65) [] ((st.step (rdByte st.rest)).step (rdNum (st.step (rdByte st.rest)).rest))).2)
    else (((dFrs (rflds K) (Part.of 0, st.step (rdByte st.rest))).1, []), (dFrs (rflds K) (Part.of 0, st.step (rdByte st.rest))).2))
  else ((Part.of ((st.val 0 (rdByte st.rest) : Nat) : Int), []), st.step (rdByte st.rest))
structure QRk (K : Nat) (x : Part) (l : List Part) : Prop where
  few : FewR x
  n : x.n = l.length
  on : Only K x
  el : ∀ y ∈ l, FewR y ∧ y.n = 0 ∧ mrB y (pw y) = false
  len : l.length ≤ 65
theorem only_flat (K : Nat) (hK : K ≤ 12) (h12 : K ≠ 12) (st : RS) : mrB (dFrs (rflds K) (Part.of 0, st)).1 (tw (K : Int)) = false := by
  match K, hK, h12 with
  | 0, _, _ | 1, _, _ | 2, _, _ | 3, _, _ | 4, _, _ | 5, _, _ | 6, _, _ | 7, _, _ | 8, _, _ | 9, _, _ | 10, _, _ | 11, _, _ => simp [rflds, dFrs, dFr, Part.of, mrB, tw, hasB]
  | n + 12, hK, h12 => omega
theorem dAllR_ok {K : Nat} (hK : K ≤ 12) (st : RS) : QRk K (dAllR K st).1.1 (dAllR K st).1.2 := by
  rw [dAllR]
  split
  · split
    · rename_i h12
      subst h12
      obtain ⟨a, b⟩ := dManyP_ok (min ((st.step (rdByte st.rest)).val 0 (rdNum (st.step (rdByte st.rest)).rest)) 65) [] ((st.step (rdByte st.rest)).step (rdNum (st.step (rdByte st.rest)).rest)) (fun y hy => by cases hy)
      refine ⟨⟨⟨Int.le_refl 0, by show (0 : Int) ≤ _; omega⟩, ⟨Int.le_refl 0, by show (0 : Int) ≤ _; omega⟩, by simp, by simp⟩, rfl, ⟨fun _ => ?_, fun h => absurd rfl h⟩, a, ?_⟩
      · simp [mrB, tw, hasB]
      · rw [b, List.length_nil, Nat.zero_add]
        exact Nat.min_le_right _ _
    · rename_i h12
      refine ⟨fewR_dFrs _ _ (fewR_of 0), by rw [dFrs_n]; rfl, ⟨fun _ => only_flat K hK h12 _, fun h => absurd ?_ h⟩, fun y hy => (by cases hy), by simp⟩
      rw [dFrs_status]; rfl
  · rename_i hk
    refine ⟨fewR_of _, rfl, ⟨fun h => ?_, fun _ => by simp [mrB, hasB, Part.of]⟩, fun y hy => (by cases hy), by simp⟩
    have h : ((st.val 0 (rdByte st.rest) : Nat) : Int) = 0 := h
    omega
def TPr (w : World) (b : Nat) (s : ByteArray) (q : (Part × List Part) × RS) (e : Ending) (w' : World) : Prop :=
  ∃ vh ve va, e = .returned (rpV q.1.1 vh ve va) ∧ Slc w' vh q.1.1.hs ∧ Nw w.heap.size w'.heap.size vh ∧ Slc w' ve q.1.1.ent ∧ Nw w.heap.size w'.heap.size ve ∧ Ps w' w.heap.size w'.heap.size va q.1.2 ∧ q.1.1.n = q.1.2.length ∧ XRd w' b s q.2 ∧ Keep (fun k => k = b) w w'
theorem takeReply17_all {w : World} {b : Nat} {s : ByteArray} {st : RS} (h : XRd w b s st) {K : Nat} (hK : K ≤ 12) :
    Calls Tryz.prog 57 #[.pointer (some ⟨b, 0, none⟩), .int .i64 (K : Int)] w (TPr w b s (dAllR K st)) := by
  have hn := (dAllR_ok hK st).n
  rw [dAllR] at hn ⊢
  split
  · rename_i h0
    rw [if_pos h0] at hn
    split
    · rename_i h12
      subst h12
      refine (takeReply17_group h h0).mono ?_
      rintro e w' ⟨va, rfl, g1, g2, g3, g4⟩
      exact ⟨_, _, va, rfl, nilT _, Nw.nil _ _, nilT _, Nw.nil _ _, g1, rfl, g3, g4⟩
    · rename_i h12
      rw [if_neg h12] at hn
      refine (takeReply17_flat h K hK h12 h0).mono ?_
      rintro e w' ⟨vh, ve, rfl, g1, g2, g3, g4, g5, g6, g7⟩
      exact ⟨vh, ve, _, rfl, g1, g2, g3, g4, .inl ⟨rfl, rfl⟩, hn, g6, g7⟩
  · rename_i h0
    refine (takeReply17_not h K _ rfl h0).mono ?_
    rintro e w' ⟨vh, ve, rfl, g1, g2, g3, g4, g5, g6, g7⟩
    exact ⟨vh, ve, _, rfl, g1, g2, g3, g4, .inl ⟨rfl, rfl⟩, rfl, g6, g7⟩
theorem dPrt_t (s : TS) (e1 : (tPart s).2.1.err = 0) (k : (tPart s).2.2 = false) : dPrt s.1 = ((tPart s).1, (tPart s).2.1) := by
  have hm : (tMark 0 8 s).1 = s.1.val 0 (rdByte s.1.rest) := rfl
  rw [tPart] at e1 k ⊢
  rw [tTail] at e1 k ⊢
  by_cases hd : isDn ((tMark 0 8 s).1 : Int) 0 = true
  · rw [if_pos hd] at e1 k ⊢
    have h0 : s.1.val 0 (rdByte s.1.rest) = 0 := by
      rw [isDn, Bool.and_eq_true, decide_eq_true_eq] at hd
      have := hd.2
      rw [hm] at this
      omega
    have e1 : (tForm (tMark 0 8 s).2).2.1.err = 0 := e1
    have k : (tForm (tMark 0 8 s).2).2.2 = false := k
    rw [dPrt, if_pos h0]
    show _ = ((tForm (tMark 0 8 s).2).1.1, (tForm (tMark 0 8 s).2).2.1)
    rw [tForm] at e1 k ⊢
    by_cases hw : wi ((tMark 0 1 (tMark 0 8 s).2).1 : Int) 0 1 = true
    · rw [if_pos hw]
      have hb := wi_iff.1 hw
      have hm2 : (tMark 0 1 (tMark 0 8 s).2).1 = (s.1.step (rdByte s.1.rest)).val 0 (rdByte (s.1.step (rdByte s.1.rest)).rest) := rfl
      by_cases h1 : (tMark 0 1 (tMark 0 8 s).2).1 = 0
      · rw [if_pos h1, if_neg (by rw [← hm2]; omega)]
        rfl
      · rw [if_neg h1, if_pos (by rw [← hm2]; omega)]
        rfl
    · rw [if_neg hw] at k
      exact absurd (mark_ok k) hw
  · rw [if_neg hd] at e1 k ⊢
    have hw := mark_ok (show (tMark 0 8 s).2.2 = false from k)
    have h0 : ¬ s.1.val 0 (rdByte s.1.rest) = 0 := fun e => hd (by rw [isDn, hw, hm, e]; rfl)
    rw [dPrt, if_neg h0]
    rfl
theorem dManyP_t : ∀ (n : Nat) (l : List Part) (s : TS), (tManyP n l s).2.1.err = 0 → (tManyP n l s).2.2 = false → dManyP n l s.1 = ((tManyP n l s).1, (tManyP n l s).2.1)
  | 0, _, _, _, _ => rfl
  | n + 1, l, s, e1, e2 => by
    obtain ⟨l', _, h2⟩ := sim_manyP n (l ++ [(tPart s).1]) (tPart s).2
    rw [tManyP] at e1 e2
    obtain ⟨g1, g2, _⟩ := h2 e1 e2
    rw [dManyP, dPrt_t s g1 g2, tManyP]
    exact dManyP_t n _ _ e1 e2
theorem dFrs_t (K : Nat) (h12 : K ≠ 12) (s : TS) : dFrs (rflds K) (Part.of 0, s.1) = ((tFrs tParts (rflds K) ((Part.of 0, []), s)).1.1, (tFrs tParts (rflds K) ((Part.of 0, []), s)).2.1) ∧ (tFrs tParts (rflds K) ((Part.of 0, []), s)).1.2 = [] := by
  match K with
  | 0 => exact ⟨rfl, rfl⟩
  | 1 => exact ⟨rfl, rfl⟩
  | 2 => exact ⟨rfl, rfl⟩
  | 3 => exact ⟨rfl, rfl⟩
  | 4 => exact ⟨rfl, rfl⟩
  | 5 => exact ⟨rfl, rfl⟩
  | 6 => exact ⟨rfl, rfl⟩
  | 7 => exact ⟨rfl, rfl⟩
  | 8 => exact ⟨rfl, rfl⟩
  | 9 => exact ⟨rfl, rfl⟩
  | 10 => exact ⟨rfl, rfl⟩
  | 11 => exact ⟨rfl, rfl⟩
  | 12 => exact absurd rfl h12
  | n + 13 => exact ⟨rfl, rfl⟩
theorem dAllR_t {K : Nat} (s : TS) (e1 : (tReply K s).2.1.err = 0) (e2 : (tReply K s).2.2 = false) :
    s.1.val 0 (rdByte s.1.rest) = K ∧ dAllR K (s.1.step (rdByte s.1.rest)) = ((tReply K s).1, (tReply K s).2.1) := by
  have hm : (tMark (K : Int) (K : Int) s).1 = s.1.val 0 (rdByte s.1.rest) := rfl
  by_cases hw : wi ((tMark (K : Int) (K : Int) s).1 : Int) (K : Int) (K : Int) = true
  · rw [tReply, if_pos hw] at e1 e2 ⊢
    have hk := wi_iff.1 hw
    refine ⟨by rw [← hm]; omega, ?_⟩
    obtain ⟨t, ht⟩ : ∃ t, (tMark (K : Int) (K : Int) s).2 = t := ⟨_, rfl⟩
    have ht1 : s.1.step (rdByte s.1.rest) = t.1 := by rw [← ht]; rfl
    rw [ht] at e1 e2 ⊢
    rw [ht1]
    clear hw hk hm ht ht1
    rw [tTail] at e1 e2 ⊢
    by_cases hd : isDn ((tMark (leastOf (K : Int)) 8 t).1 : Int) (leastOf (K : Int)) = true
    · rw [if_pos hd] at e1 e2 ⊢
      have h0 : t.1.val 0 (rdByte t.1.rest) = 0 := by
        rw [isDn, Bool.and_eq_true, decide_eq_true_eq] at hd
        have : ((t.1.val 0 (rdByte t.1.rest) : Nat) : Int) = 0 := hd.2
        omega
      rw [dAllR, if_pos h0]
      obtain ⟨t1, ht1⟩ : ∃ t1, (tMark (leastOf (K : Int)) 8 t).2 = t1 := ⟨_, rfl⟩
      have ht2 : t.1.step (rdByte t.1.rest) = t1.1 := by rw [← ht1]; rfl
      rw [ht1] at e1 e2 ⊢
      rw [ht2]
      by_cases h12 : K = 12
      · rw [if_pos h12]
        subst h12
        have e1 : (tParts t1).2.1.err = 0 := e1
        have e2 : (tParts t1).2.2 = false := e2
        obtain ⟨l', _, h2⟩ := sim_manyP (tCount t1).1 [] (tCount t1).2
        obtain ⟨_, g2, _⟩ := h2 e1 e2
        have hc := (sim_count t1).2 g2
        have hb := wi_iff.1 hc
        have hn : (tCount t1).1 = t1.1.val 0 (rdNum t1.1.rest) := by
          have : (t1.2 || !wi ((tk rdNum (fun n => wi (n : Int) 1 64) 0 t1).1 : Int) 1 64) = false := g2
          rw [Bool.or_eq_false_iff, Bool.not_eq_false'] at this
          exact if_pos this.2
        have hdd := dManyP_t _ _ _ e1 e2
        rw [← hn, Nat.min_eq_left (by omega)]
        have hdd : dManyP (tCount t1).1 [] (t1.1.step (rdNum t1.1.rest)) = ((tParts t1).1, (tParts t1).2.1) := hdd
        rw [hdd]
        rfl
      · rw [if_neg h12]
        obtain ⟨a, c⟩ := dFrs_t K h12 t1
        rw [a]
        generalize tFrs tParts (rflds K) ((Part.of 0, []), t1) = Q at c ⊢
        obtain ⟨⟨x, l⟩, r⟩ := Q
        have c : l = [] := c
        subst c
        rfl
    · rw [if_neg hd] at e1 e2 ⊢
      have hw := mark_ok (show (tMark (leastOf (K : Int)) 8 t).2.2 = false from e2)
      have h0 : ¬ t.1.val 0 (rdByte t.1.rest) = 0 := fun e => hd (by
        have e' : (tMark (leastOf (K : Int)) 8 t).1 = 0 := e
        rw [isDn, hw, e']; rfl)
      rw [dAllR, if_neg h0]
      rfl
  · rw [tReply, if_neg hw] at e2
    exact absurd (mark_ok e2) hw
end Msg
end Go.Proofs.YtmhgdcfmfcjagaaGreatDoor

namespace Go.Proofs.YtmhgdcfmfcjagaaGreatDoor
open Go.RowKit Cod
namespace Msg
abbrev aqO (x : Ask) (ul ue ua : Value) : Array Value := #[.int .i64 x.kind, .int .i64 x.a, .int .i64 x.b, .int .i64 x.size, ul, ue, ua]
end Msg
end Go.Proofs.YtmhgdcfmfcjagaaGreatDoor

namespace Go.Proofs.YtmhgdcfmfcjagaaGreatDoor
open Go.RowKit Cod
namespace Msg
set_option maxRecDepth 100000 in
set_option maxHeartbeats 1000000 in
theorem unframe17_any (s : ByteArray) (w : World) (hs : s.size ≤ 4611686018427380000) :
    Calls Tryz.prog 45 #[.string s] w fun e w' => (match rdText s.data.toList 1048576 with
      | .good p r => e = .returned (.tuple #[sv p, sv r, .int .i64 0])
      | .bad k => e = .returned (.tuple #[sv [], sv [], .int .i64 (unfr k)])) ∧ Below w.heap.size w w' := by
  have i1 := runframe_any s w hs
  have hz := nz_text s.data.toList 1048576
  cases hR : rdText s.data.toList 1048576 with
  | good p r =>
    rw [hR] at i1
    simp only [tupS] at i1
    rw [show sv p = .string ⟨p.toArray⟩ from rfl, show sv r = .string ⟨r.toArray⟩ from rfl] at i1
    clear hR hz
    go_enter Tryz.func45, Tryz.ntmps45
    go_wp2_with (go_at_call 82; refine i1.mono ?_; rintro e w1 ⟨rfl, h1⟩; have H1 := hid h1; clear h1)
    go_ret3
    exact ⟨rfl, H1.out⟩
  | bad k =>
    have hk := hz k hR
    rw [hR] at i1
    simp only [tupS] at i1
    clear hR hz
    have b0 : ((k : Int) == 0) = false := by simp; omega
    by_cases h21 : k = 21
    · subst h21
      go_enter Tryz.func45, Tryz.ntmps45
      go_wp2_with (go_at_call 82; refine i1.mono ?_; rintro e w1 ⟨rfl, h1⟩; have H1 := hid h1; clear h1)
      go_ret3
      exact ⟨rfl, H1.out⟩
    by_cases h22 : k = 22
    · subst h22
      go_enter Tryz.func45, Tryz.ntmps45
      go_wp2_with (go_at_call 82; refine i1.mono ?_; rintro e w1 ⟨rfl, h1⟩; have H1 := hid h1; clear h1)
      go_ret3
      exact ⟨rfl, H1.out⟩
    have b1 : ((k : Int) == 21) = false := by simp; omega
    have b2 : ((k : Int) == 22) = false := by simp; omega
    have hu : unfr k = 173 := by rw [unfr, if_neg h21, if_neg h22]
    show Calls _ _ _ _ fun e w' => e = .returned (.tuple #[sv [], sv [], .int .i64 (unfr k)]) ∧ _
    rw [hu]
    clear h21 h22 hu hk
    go_enter Tryz.func45, Tryz.ntmps45
    go_wp2_with (go_at_call 82; refine i1.mono ?_; rintro e w1 ⟨rfl, h1⟩; have H1 := hid h1; clear h1)
    go_ret3
    exact ⟨rfl, H1.out⟩
end Msg
end Go.Proofs.YtmhgdcfmfcjagaaGreatDoor

namespace Go.Proofs.YtmhgdcfmfcjagaaGreatDoor
open Go.RowKit Cod
namespace Msg
theorem done_err0 {st : RS} (h : st.done = 0) : st.err = 0 := by
  by_cases he : st.err = 0
  · exact he
  · rw [RS.done, if_neg he] at h; exact h
theorem wrText_inj {p q : List UInt8} (hp : p.length ≤ 1048576) (hq : q.length ≤ 1048576) (h : wrText p = wrText q) : p = q := by
  have a := text_there (t := p) (most := 1048576) (by rw [top]; omega) (by omega) []
  have b := text_there (t := q) (most := 1048576) (by rw [top]; omega) (by omega) []
  rw [h, b] at a
  exact (Rd.good.inj a).1.symm
end Msg
end Go.Proofs.YtmhgdcfmfcjagaaGreatDoor

namespace Go.Proofs.YtmhgdcfmfcjagaaGreatDoor
open Go.RowKit Cod
namespace Msg
theorem str_neq17 {a b : List UInt8} (h : a ≠ b) : ((ByteArray.mk a.toArray).toList == (ByteArray.mk b.toArray).toList) = false := by
  rw [ByteArray.toList_eq, ByteArray.toList_eq]
  simpa using h
end Msg
end Go.Proofs.YtmhgdcfmfcjagaaGreatDoor

namespace Go.Proofs.YtmhgdcfmfcjagaaGreatDoor
open Go.RowKit Cod
namespace Msg
abbrev rpO (x : Part) (uh ue up : Value) : Array Value := #[.int .i64 x.status, .int .i64 x.size, .int .i64 x.a, .int .i64 x.b, .string ⟨x.root.toArray⟩, uh, ue, up]
set_option maxRecDepth 100000 in
set_option maxHeartbeats 2000000 in
theorem sameReply_flat {w : World} {x : Part} {uh ue uh' ue' : Value} {p3 p4 : Option Addr} {q3 q4 : Nat} (hn : x.n = 0) (a1 : Slc w uh x.hs) (a2 : Slc w ue x.ent) (b1 : Slc w uh' x.hs) (b2 : Slc w ue' x.ent) (hl1 : x.hs.length ≤ maxLen) (hl2 : x.ent.length ≤ maxLen) :
    Calls Tryz.prog 17 #[.agg (rpO x uh ue (.slice p3 x.n q3)), .agg (rpO x uh' ue' (.slice p4 x.n q4))] w fun e w' => e = .returned (.bool true) ∧ Below w.heap.size w w' := by
  rw [hn]
  have bA := ((Below.refl w.heap.size w).alloc (Nat.le_refl _) (.cells (rpO x uh ue (.slice p3 0 q3)) 45)).alloc (by rw [size_alloc]; omega) (.cells (rpO x uh' ue' (.slice p4 0 q4)) 45)
  have i1 := sameTexts_yes x.hs uh uh' _ (a1.below bA (Nat.le_refl _)) (b1.below bA (Nat.le_refl _)) hl1
  have A2 := hid (a2.below bA (Nat.le_refl _))
  have B2 := hid (b2.below bA (Nat.le_refl _))
  have r1 : ((w.alloc (.cells (rpO x uh ue (.slice p3 0 q3)) 45)).alloc (.cells (rpO x uh' ue' (.slice p4 0 q4)) 45)).heap[w.heap.size]? = some (.cells (rpO x uh ue (.slice p3 0 q3)) 45 (0, 0)) := (((Below.refl _ _).alloc (Nat.le_refl _) _).block _ (by rw [size_alloc]; omega)).trans (heap_alloc_new _ _)
  have r2 : ((w.alloc (.cells (rpO x uh ue (.slice p3 0 q3)) 45)).alloc (.cells (rpO x uh' ue' (.slice p4 0 q4)) 45)).heap[w.heap.size + 1]? = some (.cells (rpO x uh' ue' (.slice p4 0 q4)) 45 (0, 0)) := heap_alloc_at _ _ _ (size_alloc _ _)
  have zz : ((w.alloc (.cells (rpO x uh ue (.slice p3 0 q3)) 45)).alloc (.cells (rpO x uh' ue' (.slice p4 0 q4)) 45)).heap.size = w.heap.size + 1 + 1 := by rw [size_alloc, size_alloc]
  have BA := hid bA
  obtain ⟨p5, q5, rfl, _⟩ := a1
  obtain ⟨p6, q6, rfl, _⟩ := a2
  obtain ⟨p7, q7, rfl, _⟩ := b1
  obtain ⟨p8, q8, rfl, _⟩ := b2
  have y1 : ((⟨x.root.toArray⟩ : ByteArray).toList != (⟨x.root.toArray⟩ : ByteArray).toList) = false := by simp
  clear bA
  go_enter Tryz.func17, Tryz.ntmps17
  go_wp2_with (go_at_call 39; fail)
  go_at_call 39
  refine i1.mono ?_
  rintro e w1 ⟨rfl, h1⟩
  have R1 := (h1.block _ (by omega)).trans r1
  have R2 := (h1.block _ (by omega)).trans r2
  have BB1 := hid (BA.out.trans (h1.mono (by omega)))
  have i2 := sameTexts_yes x.ent _ _ w1 (A2.out.below h1 (Nat.le_refl _)) (B2.out.below h1 (Nat.le_refl _)) hl2
  have c6 : w1.cell? ⟨w.heap.size, 6, none⟩ = some (.slice p6 x.ent.length q6) := by rw [cell_of_row _ _ _ _ _ _ R1]; rfl
  have d6 : w1.cell? ⟨w.heap.size + 1, 6, none⟩ = some (.slice p8 x.ent.length q8) := by rw [cell_of_row _ _ _ _ _ _ R2]; rfl
  have hs1 := h1.size
  clear h1 i1 r1 r2
  go_wp2_with (go_at_call 39; fail)
  go_at_call 39
  refine i2.mono ?_
  rintro e w2 ⟨rfl, h2⟩
  have S1 := (h2.block _ (by omega)).trans R1
  have S2 := (h2.block _ (by omega)).trans R2
  have BB2 := hid (BB1.out.trans (h2.mono (by omega)))
  have e0 : w2.cell? ⟨w.heap.size, 0, none⟩ = some (.int .i64 x.status) := by rw [cell_of_row _ _ _ _ _ _ S1]; rfl
  have e1 : w2.cell? ⟨w.heap.size, 1, none⟩ = some (.int .i64 x.size) := by rw [cell_of_row _ _ _ _ _ _ S1]; rfl
  have e2 : w2.cell? ⟨w.heap.size, 2, none⟩ = some (.int .i64 x.a) := by rw [cell_of_row _ _ _ _ _ _ S1]; rfl
  have e3 : w2.cell? ⟨w.heap.size, 3, none⟩ = some (.int .i64 x.b) := by rw [cell_of_row _ _ _ _ _ _ S1]; rfl
  have e4 : w2.cell? ⟨w.heap.size, 4, none⟩ = some (.string ⟨x.root.toArray⟩) := by rw [cell_of_row _ _ _ _ _ _ S1]; rfl
  have e7 : w2.cell? ⟨w.heap.size, 7, none⟩ = some (.slice p3 0 q3) := by rw [cell_of_row _ _ _ _ _ _ S1]; rfl
  have f0 : w2.cell? ⟨w.heap.size + 1, 0, none⟩ = some (.int .i64 x.status) := by rw [cell_of_row _ _ _ _ _ _ S2]; rfl
  have f1 : w2.cell? ⟨w.heap.size + 1, 1, none⟩ = some (.int .i64 x.size) := by rw [cell_of_row _ _ _ _ _ _ S2]; rfl
  have f2 : w2.cell? ⟨w.heap.size + 1, 2, none⟩ = some (.int .i64 x.a) := by rw [cell_of_row _ _ _ _ _ _ S2]; rfl
  have f3 : w2.cell? ⟨w.heap.size + 1, 3, none⟩ = some (.int .i64 x.b) := by rw [cell_of_row _ _ _ _ _ _ S2]; rfl
  have f4 : w2.cell? ⟨w.heap.size + 1, 4, none⟩ = some (.string ⟨x.root.toArray⟩) := by rw [cell_of_row _ _ _ _ _ _ S2]; rfl
  have f7 : w2.cell? ⟨w.heap.size + 1, 7, none⟩ = some (.slice p4 0 q4) := by rw [cell_of_row _ _ _ _ _ _ S2]; rfl
  have n0 : (x.status != x.status) = false := by simp
  have n1 : (x.size != x.size) = false := by simp
  have n2 : (x.a != x.a) = false := by simp
  have n3 : (x.b != x.b) = false := by simp
  clear h2 i2 R1 R2 S1 S2 c6 d6
  generalize (⟨x.root.toArray⟩ : ByteArray) = rt at *
  generalize x.status = xs at *
  generalize x.size = xz at *
  generalize x.a = xa at *
  generalize x.b = xb at *
  go_wp2
  go_loopw [7] (fun i w' => i = .int .i64 0 ∧ w' = w2) (fun _ _ => 0)
  case atStart => exact ⟨rfl, rfl⟩
  case round =>
    obtain ⟨rfl, rfl⟩ := hrel
    go_wp2
    go_ret
    exact ⟨rfl, BB2.out⟩
end Msg
end Go.Proofs.YtmhgdcfmfcjagaaGreatDoor

namespace Go.Proofs.YtmhgdcfmfcjagaaGreatDoor
open Go.RowKit Cod
namespace Msg
theorem Ps.pq {w : World} {lo hi : Nat} {u : Value} {l : List Part} (h : Ps w lo hi u l) : Pq w hi u l := by
  rcases h with ⟨rfl, rfl⟩ | ⟨g, cap, rfl, h1, h2, h3, h4⟩
  · exact ⟨none, 0, rfl, fun j x hx => by simp at hx⟩
  · refine ⟨_, cap, rfl, fun j x hx => ?_⟩
    obtain ⟨uh, ue, up, c0, c1, c2, c3, c4, c5, c6, c7, n1, n2, s1, s2, s3⟩ := h4 j x hx
    refine ⟨_, rfl, h2, uh, ue, up, ?_⟩
    simp only [add_at, Nat.zero_add]
    exact ⟨c0, c1, c2, c3, c4, c5, c6, c7, n1.lw, n2.lw, s1, s2, s3⟩
set_option maxRecDepth 100000 in
set_option maxHeartbeats 2000000 in
theorem sameReply_yes {w : World} {hi : Nat} {x : Part} {l : List Part} {uh ue uh' ue' : Value} {p3 p4 : Option Addr} {q3 q4 : Nat} (hn : x.n = l.length) (a3 : Pq w hi (.slice p3 x.n q3) l) (b3 : Pq w hi (.slice p4 x.n q4) l) (hhi : hi ≤ w.heap.size) (hl : ∀ y ∈ l, y.n = 0 ∧ y.hs.length ≤ maxLen ∧ y.ent.length ≤ maxLen) (hl3 : l.length ≤ maxLen) (a1 : Slc w uh x.hs) (a2 : Slc w ue x.ent) (b1 : Slc w uh' x.hs) (b2 : Slc w ue' x.ent) (hl1 : x.hs.length ≤ maxLen) (hl2 : x.ent.length ≤ maxLen) :
    Calls Tryz.prog 17 #[.agg (rpO x uh ue (.slice p3 x.n q3)), .agg (rpO x uh' ue' (.slice p4 x.n q4))] w fun e w' => e = .returned (.bool true) ∧ Below w.heap.size w w' := by
  rw [hn] at a3 b3 ⊢
  unfold maxLen at hl3
  have bA := ((Below.refl w.heap.size w).alloc (Nat.le_refl _) (.cells (rpO x uh ue (.slice p3 l.length q3)) 45)).alloc (by rw [size_alloc]; omega) (.cells (rpO x uh' ue' (.slice p4 l.length q4)) 45)
  have i1 := sameTexts_yes x.hs uh uh' _ (a1.below bA (Nat.le_refl _)) (b1.below bA (Nat.le_refl _)) hl1
  have A2 := hid (a2.below bA (Nat.le_refl _))
  have B2 := hid (b2.below bA (Nat.le_refl _))
  have r1 : ((w.alloc (.cells (rpO x uh ue (.slice p3 l.length q3)) 45)).alloc (.cells (rpO x uh' ue' (.slice p4 l.length q4)) 45)).heap[w.heap.size]? = some (.cells (rpO x uh ue (.slice p3 l.length q3)) 45 (0, 0)) := (((Below.refl _ _).alloc (Nat.le_refl _) _).block _ (by rw [size_alloc]; omega)).trans (heap_alloc_new _ _)
  have r2 : ((w.alloc (.cells (rpO x uh ue (.slice p3 l.length q3)) 45)).alloc (.cells (rpO x uh' ue' (.slice p4 l.length q4)) 45)).heap[w.heap.size + 1]? = some (.cells (rpO x uh' ue' (.slice p4 l.length q4)) 45 (0, 0)) := heap_alloc_at _ _ _ (size_alloc _ _)
  have zz : ((w.alloc (.cells (rpO x uh ue (.slice p3 l.length q3)) 45)).alloc (.cells (rpO x uh' ue' (.slice p4 l.length q4)) 45)).heap.size = w.heap.size + 1 + 1 := by rw [size_alloc, size_alloc]
  have BA := hid bA
  have A3 := hid a3
  have B3 := hid b3
  have HL := hid hl
  obtain ⟨p5, q5, rfl, _⟩ := a1
  obtain ⟨p6, q6, rfl, _⟩ := a2
  obtain ⟨p7, q7, rfl, _⟩ := b1
  obtain ⟨p8, q8, rfl, _⟩ := b2
  have y1 : ((⟨x.root.toArray⟩ : ByteArray).toList != (⟨x.root.toArray⟩ : ByteArray).toList) = false := by simp
  clear bA a3 b3 hl
  go_enter Tryz.func17, Tryz.ntmps17
  go_wp2_with (go_at_call 39; fail)
  go_at_call 39
  refine i1.mono ?_
  rintro e w1 ⟨rfl, h1⟩
  have R1 := (h1.block _ (by omega)).trans r1
  have R2 := (h1.block _ (by omega)).trans r2
  have BB1 := hid (BA.out.trans (h1.mono (by omega)))
  have i2 := sameTexts_yes x.ent _ _ w1 (A2.out.below h1 (Nat.le_refl _)) (B2.out.below h1 (Nat.le_refl _)) hl2
  have c6 : w1.cell? ⟨w.heap.size, 6, none⟩ = some (.slice p6 x.ent.length q6) := by rw [cell_of_row _ _ _ _ _ _ R1]; rfl
  have d6 : w1.cell? ⟨w.heap.size + 1, 6, none⟩ = some (.slice p8 x.ent.length q8) := by rw [cell_of_row _ _ _ _ _ _ R2]; rfl
  have hs1 := h1.size
  clear h1 i1 r1 r2
  go_wp2_with (go_at_call 39; fail)
  go_at_call 39
  refine i2.mono ?_
  rintro e w2 ⟨rfl, h2⟩
  have S1 := (h2.block _ (by omega)).trans R1
  have S2 := (h2.block _ (by omega)).trans R2
  have BB2 := hid (BB1.out.trans (h2.mono (by omega)))
  have e0 : w2.cell? ⟨w.heap.size, 0, none⟩ = some (.int .i64 x.status) := by rw [cell_of_row _ _ _ _ _ _ S1]; rfl
  have e1 : w2.cell? ⟨w.heap.size, 1, none⟩ = some (.int .i64 x.size) := by rw [cell_of_row _ _ _ _ _ _ S1]; rfl
  have e2 : w2.cell? ⟨w.heap.size, 2, none⟩ = some (.int .i64 x.a) := by rw [cell_of_row _ _ _ _ _ _ S1]; rfl
  have e3 : w2.cell? ⟨w.heap.size, 3, none⟩ = some (.int .i64 x.b) := by rw [cell_of_row _ _ _ _ _ _ S1]; rfl
  have e4 : w2.cell? ⟨w.heap.size, 4, none⟩ = some (.string ⟨x.root.toArray⟩) := by rw [cell_of_row _ _ _ _ _ _ S1]; rfl
  have e7 : w2.cell? ⟨w.heap.size, 7, none⟩ = some (.slice p3 l.length q3) := by rw [cell_of_row _ _ _ _ _ _ S1]; rfl
  have f0 : w2.cell? ⟨w.heap.size + 1, 0, none⟩ = some (.int .i64 x.status) := by rw [cell_of_row _ _ _ _ _ _ S2]; rfl
  have f1 : w2.cell? ⟨w.heap.size + 1, 1, none⟩ = some (.int .i64 x.size) := by rw [cell_of_row _ _ _ _ _ _ S2]; rfl
  have f2 : w2.cell? ⟨w.heap.size + 1, 2, none⟩ = some (.int .i64 x.a) := by rw [cell_of_row _ _ _ _ _ _ S2]; rfl
  have f3 : w2.cell? ⟨w.heap.size + 1, 3, none⟩ = some (.int .i64 x.b) := by rw [cell_of_row _ _ _ _ _ _ S2]; rfl
  have f4 : w2.cell? ⟨w.heap.size + 1, 4, none⟩ = some (.string ⟨x.root.toArray⟩) := by rw [cell_of_row _ _ _ _ _ _ S2]; rfl
  have f7 : w2.cell? ⟨w.heap.size + 1, 7, none⟩ = some (.slice p4 l.length q4) := by rw [cell_of_row _ _ _ _ _ _ S2]; rfl
  have n0 : (x.status != x.status) = false := by simp
  have n1 : (x.size != x.size) = false := by simp
  have n2 : (x.a != x.a) = false := by simp
  have n3 : (x.b != x.b) = false := by simp
  have SS1 := hid S1
  have SS2 := hid S2
  have n4 : (((l.length : Nat) : Int) != ((l.length : Nat) : Int)) = false := by simp
  have hz2 : w.heap.size + 1 < w2.heap.size := by have := h2.size; omega
  clear h2 i2 R1 R2 S1 S2 c6 d6
  go_wp2
  clear e0 e1 e2 e3 e4 e7 f0 f1 f2 f3 f4 f7
  go_loopw [7] (fun i w' => ∃ k : Nat, k ≤ l.length ∧ i = .int .i64 k ∧ Hid (Below w2.heap.size w2 w')) (fun i _ => l.length - (intOf i).toNat)
  case atStart => exact ⟨0, by omega, rfl, hid (Below.refl _ _)⟩
  case round =>
    obtain ⟨k, hk, rfl, hB⟩ := hrel
    have e7 : wr.cell? ⟨w.heap.size, 7, none⟩ = some (.slice p3 l.length q3) := by rw [cell_of_row _ _ _ _ _ _ ((hB.out.block _ (by omega)).trans SS1.out)]; rfl
    have f7 : wr.cell? ⟨w.heap.size + 1, 7, none⟩ = some (.slice p4 l.length q4) := by rw [cell_of_row _ _ _ _ _ _ ((hB.out.block _ (by omega)).trans SS2.out)]; rfl
    by_cases hlt : k < l.length
    · have b0 : (k : Int) < (l.length : Int) := by omega
      have bW : Below hi w wr := (BB2.out.mono hhi).trans (hB.out.mono (by omega))
      obtain ⟨pa, ca, he, a4⟩ := A3.out.bl bW
      injection he with he1 he2 he3
      obtain ⟨y, ey, hy, vh, ve, vp, c0, c1, c2, c3, c4, c5, c6, c7, m1, m2, r1, r2, r3⟩ := a4 k l[k] (List.getElem?_eq_getElem hlt)
      rw [← he1] at ey
      clear he1 he2 he3 a4
      obtain ⟨pa', ca', he, a4⟩ := B3.out.bl bW
      injection he with he1 he2 he3
      obtain ⟨z, ez, hz, xh, xe, xp, d0, d1, d2, d3, d4, d5, d6, d7, m3, m4, r4, r5, r6⟩ := a4 k l[k] (List.getElem?_eq_getElem hlt)
      rw [← he1] at ez
      clear he1 he2 he3 a4
      subst ey ez
      rw [← Go.Deep.add_add] at c1 c2 c3 c4 c5 c6 c7 d1 d2 d3 d4 d5 d6 d7
      obtain ⟨g1, g2, g3⟩ := HL.out l[k] (List.getElem_mem hlt)
      obtain ⟨p1, q1, rfl⟩ := r3
      obtain ⟨p2, q2, rfl⟩ := r6
      have i3 := sameReply_flat (w := wr.drew) (p3 := p1) (q3 := q1) (p4 := p2) (q4 := q2) g1 (Slc.drew r1) (Slc.drew r2) (Slc.drew r4) (Slc.drew r5) g2 g3
      clear g1 g2 g3
      obtain ⟨pp1, qq1, rfl, _⟩ := r1
      obtain ⟨pp2, qq2, rfl, _⟩ := r2
      obtain ⟨pp3, qq3, rfl, _⟩ := r4
      obtain ⟨pp4, qq4, rfl, _⟩ := r5
      rw [sv] at c4 d4
      generalize l[k] = t at *
      have S0 : wr.cell? ⟨w.heap.size, 7, none⟩ = some (.slice (some y) l.length q3) ∧ wr.cell? ⟨w.heap.size + 1, 7, none⟩ = some (.slice (some z) l.length q4) ∧ wr.cell? (y.add (k * 8)) = some (.int .i64 t.status) ∧ wr.cell? ⟨(y.add (k * 8)).block, (y.add (k * 8)).off + 1, none⟩ = some (.int .i64 t.size) ∧ wr.cell? ⟨(y.add (k * 8)).block, (y.add (k * 8)).off + 2, none⟩ = some (.int .i64 t.a) ∧ wr.cell? ⟨(y.add (k * 8)).block, (y.add (k * 8)).off + 3, none⟩ = some (.int .i64 t.b) ∧ wr.cell? ⟨(y.add (k * 8)).block, (y.add (k * 8)).off + 4, none⟩ = some (.string ⟨t.root.toArray⟩) ∧ wr.cell? ⟨(y.add (k * 8)).block, (y.add (k * 8)).off + 5, none⟩ = some (.slice pp1 t.hs.length qq1) ∧ wr.cell? ⟨(y.add (k * 8)).block, (y.add (k * 8)).off + 6, none⟩ = some (.slice pp2 t.ent.length qq2) ∧ wr.cell? ⟨(y.add (k * 8)).block, (y.add (k * 8)).off + 7, none⟩ = some (.slice p1 t.n q1) ∧ wr.cell? (z.add (k * 8)) = some (.int .i64 t.status) ∧ wr.cell? ⟨(z.add (k * 8)).block, (z.add (k * 8)).off + 1, none⟩ = some (.int .i64 t.size) ∧ wr.cell? ⟨(z.add (k * 8)).block, (z.add (k * 8)).off + 2, none⟩ = some (.int .i64 t.a) ∧ wr.cell? ⟨(z.add (k * 8)).block, (z.add (k * 8)).off + 3, none⟩ = some (.int .i64 t.b) ∧ wr.cell? ⟨(z.add (k * 8)).block, (z.add (k * 8)).off + 4, none⟩ = some (.string ⟨t.root.toArray⟩) ∧ wr.cell? ⟨(z.add (k * 8)).block, (z.add (k * 8)).off + 5, none⟩ = some (.slice pp3 t.hs.length qq3) ∧ wr.cell? ⟨(z.add (k * 8)).block, (z.add (k * 8)).off + 6, none⟩ = some (.slice pp4 t.ent.length qq4) ∧ wr.cell? ⟨(z.add (k * 8)).block, (z.add (k * 8)).off + 7, none⟩ = some (.slice p2 t.n q2) := ⟨e7, f7, c0, c1, c2, c3, c4, c5, c6, c7, d0, d1, d2, d3, d4, d5, d6, d7⟩
      have hyb : (y.add (k * 8)).block < wr.heap.size := by rw [add_block]; have := hB.out.size; omega
      have hzb : (z.add (k * 8)).block < wr.heap.size := by rw [add_block]; have := hB.out.size; omega
      have hA1 : w.heap.size < wr.heap.size := by have := hB.out.size; omega
      have hA2 : w.heap.size + 1 < wr.heap.size := by have := hB.out.size; omega
      have SA : Hid (∀ w', Below wr.heap.size wr w' → w'.cell? ⟨w.heap.size, 7, none⟩ = some (.slice (some y) l.length q3) ∧ w'.cell? ⟨w.heap.size + 1, 7, none⟩ = some (.slice (some z) l.length q4) ∧ w'.cell? (y.add (k * 8)) = some (.int .i64 t.status) ∧ w'.cell? ⟨(y.add (k * 8)).block, (y.add (k * 8)).off + 1, none⟩ = some (.int .i64 t.size) ∧ w'.cell? ⟨(y.add (k * 8)).block, (y.add (k * 8)).off + 2, none⟩ = some (.int .i64 t.a) ∧ w'.cell? ⟨(y.add (k * 8)).block, (y.add (k * 8)).off + 3, none⟩ = some (.int .i64 t.b) ∧ w'.cell? ⟨(y.add (k * 8)).block, (y.add (k * 8)).off + 4, none⟩ = some (.string ⟨t.root.toArray⟩) ∧ w'.cell? ⟨(y.add (k * 8)).block, (y.add (k * 8)).off + 5, none⟩ = some (.slice pp1 t.hs.length qq1) ∧ w'.cell? ⟨(y.add (k * 8)).block, (y.add (k * 8)).off + 6, none⟩ = some (.slice pp2 t.ent.length qq2) ∧ w'.cell? ⟨(y.add (k * 8)).block, (y.add (k * 8)).off + 7, none⟩ = some (.slice p1 t.n q1) ∧ w'.cell? (z.add (k * 8)) = some (.int .i64 t.status) ∧ w'.cell? ⟨(z.add (k * 8)).block, (z.add (k * 8)).off + 1, none⟩ = some (.int .i64 t.size) ∧ w'.cell? ⟨(z.add (k * 8)).block, (z.add (k * 8)).off + 2, none⟩ = some (.int .i64 t.a) ∧ w'.cell? ⟨(z.add (k * 8)).block, (z.add (k * 8)).off + 3, none⟩ = some (.int .i64 t.b) ∧ w'.cell? ⟨(z.add (k * 8)).block, (z.add (k * 8)).off + 4, none⟩ = some (.string ⟨t.root.toArray⟩) ∧ w'.cell? ⟨(z.add (k * 8)).block, (z.add (k * 8)).off + 5, none⟩ = some (.slice pp3 t.hs.length qq3) ∧ w'.cell? ⟨(z.add (k * 8)).block, (z.add (k * 8)).off + 6, none⟩ = some (.slice pp4 t.ent.length qq4) ∧ w'.cell? ⟨(z.add (k * 8)).block, (z.add (k * 8)).off + 7, none⟩ = some (.slice p2 t.n q2)) := fun w' hb => by
        obtain ⟨a0, a1, a2, a3, a4, a5, a6, a7, a8, a9, a10, a11, a12, a13, a14, a15, a16, a17⟩ := S0
        have key : ∀ (p : Addr) v, p.block < wr.heap.size → wr.cell? p = some v → w'.cell? p = some v := fun p v h1 h2 => (hb.cell h1).trans h2
        exact ⟨key _ _ hA1 a0, key _ _ hA2 a1, key _ _ hyb a2, key _ _ hyb a3, key _ _ hyb a4, key _ _ hyb a5, key _ _ hyb a6, key _ _ hyb a7, key _ _ hyb a8, key _ _ hyb a9, key _ _ hzb a10, key _ _ hzb a11, key _ _ hzb a12, key _ _ hzb a13, key _ _ hzb a14, key _ _ hzb a15, key _ _ hzb a16, key _ _ hzb a17⟩
      clear e7 f7 c0 c1 c2 c3 c4 c5 c6 c7 d0 d1 d2 d3 d4 d5 d6 d7 m1 m2 m3 m4
      go_wp2
      go_region_held3 (fun w' => w'.cell? ⟨w.heap.size, 7, none⟩ = some (.slice (some y) l.length q3) ∧ w'.cell? ⟨w.heap.size + 1, 7, none⟩ = some (.slice (some z) l.length q4) ∧ w'.cell? (y.add (k * 8)) = some (.int .i64 t.status) ∧ w'.cell? ⟨(y.add (k * 8)).block, (y.add (k * 8)).off + 1, none⟩ = some (.int .i64 t.size) ∧ w'.cell? ⟨(y.add (k * 8)).block, (y.add (k * 8)).off + 2, none⟩ = some (.int .i64 t.a) ∧ w'.cell? ⟨(y.add (k * 8)).block, (y.add (k * 8)).off + 3, none⟩ = some (.int .i64 t.b) ∧ w'.cell? ⟨(y.add (k * 8)).block, (y.add (k * 8)).off + 4, none⟩ = some (.string ⟨t.root.toArray⟩) ∧ w'.cell? ⟨(y.add (k * 8)).block, (y.add (k * 8)).off + 5, none⟩ = some (.slice pp1 t.hs.length qq1) ∧ w'.cell? ⟨(y.add (k * 8)).block, (y.add (k * 8)).off + 6, none⟩ = some (.slice pp2 t.ent.length qq2) ∧ w'.cell? ⟨(y.add (k * 8)).block, (y.add (k * 8)).off + 7, none⟩ = some (.slice p1 t.n q1) ∧ w'.cell? (z.add (k * 8)) = some (.int .i64 t.status) ∧ w'.cell? ⟨(z.add (k * 8)).block, (z.add (k * 8)).off + 1, none⟩ = some (.int .i64 t.size) ∧ w'.cell? ⟨(z.add (k * 8)).block, (z.add (k * 8)).off + 2, none⟩ = some (.int .i64 t.a) ∧ w'.cell? ⟨(z.add (k * 8)).block, (z.add (k * 8)).off + 3, none⟩ = some (.int .i64 t.b) ∧ w'.cell? ⟨(z.add (k * 8)).block, (z.add (k * 8)).off + 4, none⟩ = some (.string ⟨t.root.toArray⟩) ∧ w'.cell? ⟨(z.add (k * 8)).block, (z.add (k * 8)).off + 5, none⟩ = some (.slice pp3 t.hs.length qq3) ∧ w'.cell? ⟨(z.add (k * 8)).block, (z.add (k * 8)).off + 6, none⟩ = some (.slice pp4 t.ent.length qq4) ∧ w'.cell? ⟨(z.add (k * 8)).block, (z.add (k * 8)).off + 7, none⟩ = some (.slice p2 t.n q2)) (first | exact S0 | exact S1) (first | (go_at_call 17; (with_reducible refine i3.mono ?_); rintro e w3 ⟨rfl, h3⟩; have S1 := SA.out w3 (((Below.refl _ wr).drew).trans h3); have B4 := hid (hB.out.trans ((((Below.refl _ wr).drew).trans h3).mono hB.out.size)); clear h3))
      go_wp2
      exact ⟨⟨k + 1, by omega, by go_num, B4⟩, by simp [intOf]; omega⟩
    · have b0 : ¬ (k : Int) < (l.length : Int) := by omega
      obtain rfl : k = l.length := by omega
      go_wp2
      go_ret
      exact ⟨rfl, BB2.out.trans (hB.out.mono (by omega))⟩
end Msg
end Go.Proofs.YtmhgdcfmfcjagaaGreatDoor
