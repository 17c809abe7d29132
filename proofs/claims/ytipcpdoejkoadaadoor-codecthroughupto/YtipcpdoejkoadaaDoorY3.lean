import Derived.Test.YtipcpdoejkoadaaDoorY2
import Derived.Test.YtipcpdoejkoadaaDoorU3
namespace Go.Proofs.YtipcpdoejkoadaaDoor
open Go.RowKit Cod

set_option maxRecDepth 100000 in
set_option maxHeartbeats 2000000 in
theorem xTexts_any (x : Nat) (S : List UInt8) (E : Int) (u : Value) (ps : List (List UInt8)) (many most : Int) (hll : ps.length ≤ 1000000000) (htot : total ps ≤ 1000000000) (w : World) (hs : Slc w u ps) (h : RWr w x S E) (hl : S.length ≤ 4611686018420000000) :
    Calls Tryd.prog 80 #[.pointer (some ⟨x, 0, none⟩), u, .int .i64 many, .int .i64 most] w (RPut w x S E (textsErr ps many most) (wrTexts ps)) := by
  have hx := h.lt
  have H := hid h
  have HS := hid hs
  obtain ⟨a, cap, rfl, _⟩ := hs
  have hD := digits_any ps.length (by omega) w
  have hd10 := digs_len9 (n := ps.length) (by omega)
  clear h
  by_cases h0 : many < 0
  · have e1 : textsErr ps many most = 1 := by rw [textsErr, if_pos (.inl h0)]
    rw [e1]
    clear e1
    go_enter Tryd.func80, Tryd.ntmps80
    go_wp2_with (go_at_call 91; refine (wrong_any x S E 1 _ H.out).mono ?_; rintro y w1 ⟨rfl, k1, k2⟩; have K1 := hid k1; have K2 := hid k2; clear k1 k2)
    go_end0
    exact rput_no (by omega) K1.out K2.out
  by_cases h1 : most < 0
  · have e1 : textsErr ps many most = 1 := by rw [textsErr, if_pos (.inr h1)]
    rw [e1]
    clear e1
    go_enter Tryd.func80, Tryd.ntmps80
    go_wp2_with (go_at_call 91; refine (wrong_any x S E 1 _ H.out).mono ?_; rintro y w1 ⟨rfl, k1, k2⟩; have K1 := hid k1; have K2 := hid k2; clear k1 k2)
    go_end0
    exact rput_no (by omega) K1.out K2.out
  by_cases h2 : many < (ps.length : Int)
  · have e1 : textsErr ps many most = 22 := by rw [textsErr, if_neg (by omega), if_pos h2]
    rw [e1]
    clear e1
    go_enter Tryd.func80, Tryd.ntmps80
    go_wp2_with (go_at_call 91; refine (wrong_any x S E 22 _ H.out).mono ?_; rintro y w1 ⟨rfl, k1, k2⟩; have K1 := hid k1; have K2 := hid k2; clear k1 k2)
    go_end0
    exact rput_no (by omega) K1.out K2.out
  obtain ⟨R, hR⟩ : ∃ R : Int, Hid (textsErr ps many most = R) := ⟨_, rfl⟩
  have hR2 := hR.out
  rw [textsErr, if_neg (by omega), if_neg h2] at hR2
  have HR2 := hid hR2
  rw [hR.out]
  clear hR2
  go_enter Tryd.func80, Tryd.ntmps80
  go_wp2_with (go_at_call 65; refine hD.mono ?_; rintro y w1 ⟨rfl, k1⟩; have K1 := hid k1; clear k1)
  clear hD
  go_loopw [8, 9] (fun s i w' => ∃ (k : Nat) (t : List UInt8), k ≤ ps.length ∧ i = .int .i64 k ∧ s = sv t ∧ Hid (t.length ≤ 9 + 9 * k + (ps.take k).flatten.length) ∧ Hid ((∀ p ∈ ps.drop k, (p.length : Int) ≤ most) ↔ ∀ p ∈ ps, (p.length : Int) ≤ most) ∧ Hid (t ++ ((ps.drop k).map wrText).flatten = wrTexts ps) ∧ Hid (Below w.heap.size w w')) (fun _ i _ => ps.length - (intOf i).toNat)
  case atStart => exact ⟨0, _, by omega, rfl, rfl, hid (by simp; omega), hid Iff.rfl, hid (by rw [List.drop_zero, wrTexts]), K1⟩
  case round =>
    obtain ⟨k, t, hk, rfl, rfl, htl, hr, ht, hbl⟩ := hrel
    by_cases hlt : k < ps.length
    · have hlt' : (k : Int) < (ps.length : Int) := by omega
      obtain ⟨a', cap', hu, hcs⟩ := HS.out.keep (S := fun _ => False) (Keep.ofBelow hbl.out) (fun _ _ _ _ h => h)
      cases hu
      obtain ⟨xx, hxx, hxb, hc⟩ := hcs k _ (List.getElem?_eq_getElem hlt)
      subst hxx
      have hpl := total_take ps k hlt
      have htk := take_flatten ps k hlt
      have htl2 := htl.out
      have ht2 := ht.out
      rw [List.drop_eq_getElem_cons hlt, texts_cons] at ht2
      by_cases hp : (ps[k].length : Int) ≤ most
      · have HR := hid (all_drop hlt hr.out hp)
        obtain ⟨p, hpv⟩ : ∃ p, Hid (sv ps[k] = .string p) := ⟨⟨ps[k].toArray⟩, hid rfl⟩
        obtain ⟨hpd, hpz⟩ := str_eta hpv.out
        rw [hpv.out] at hc
        rw [← hpz] at hp hpl
        rw [← hpd] at ht2
        have htk2 := congrArg List.length htk
        rw [List.length_append, ← hpz] at htk2
        have hq : ¬ most < (p.size : Int) := by omega
        have h9 := digs_len9 (n := p.size) (by omega)
        have hD2 := fun w => digits_any p.size (by omega) w
        have hadd := add_sv Tryd.prog 9 t (digs p.size) (by omega)
        have hadd2 := add_sv Tryd.prog 9 (t ++ digs p.size) p.data.toList (by rw [List.length_append, data_length]; omega)
        rw [sv_of, List.append_assoc, show digs p.size ++ p.data.toList = wrText p.data.toList from by rw [wrText, data_length]] at hadd2
        have HL2 : Hid ((t ++ wrText p.data.toList).length ≤ 9 + 9 * (k + 1) + (ps.take (k + 1)).flatten.length) := by
          show _ ≤ _
          rw [htk2, List.length_append, wrText, List.length_append, data_length]
          omega
        have HT2 : Hid ((t ++ wrText p.data.toList) ++ ((ps.drop (k + 1)).map wrText).flatten = wrTexts ps) := by
          show _ = _
          rw [List.append_assoc]; exact ht2
        have HD2 := hid hD2
        have hc' : wr.drew.cell? (xx.add k) = some (.string p) := hc
        clear hcs hpd hpz hpl htk htk2 htl2 ht2 h9 hD2
        go_wp2
        go_region_with ((go_at_call 65; refine (HD2.out _).mono ?_; rintro y w2 ⟨rfl, k2⟩; have K2 := hid (hbl.out.trans ((undrew k2).mono hbl.out.size)); have c2 := (k2.cell (p := xx.add k) (by rw [add_block]; exact hxb)).trans hc'; clear k2))
        all_goals go_wp2
        all_goals exact ⟨⟨k + 1, _, by omega, by go_num, rfl, HL2, HR, HT2, K2⟩, by simp [intOf]; omega⟩
      · have HR : R = 22 := by rw [← HR2.out, if_neg (not_all_drop (q := fun p : List UInt8 => (p.length : Int) ≤ most) hlt hp)]
        subst HR
        have R1 := hid (H.out.below hbl.out)
        obtain ⟨p, hpv⟩ : ∃ p, Hid (sv ps[k] = .string p) := ⟨⟨ps[k].toArray⟩, hid rfl⟩
        obtain ⟨hpd, hpz⟩ := str_eta hpv.out
        rw [hpv.out] at hc
        rw [← hpz] at hp
        have hq : most < (p.size : Int) := by omega
        clear hcs hpd hpz hpl htk htl2 ht2
        go_wp2_with (go_at_call 91; refine (wrong_any x S E 22 _ R1.out).mono ?_; rintro y w2 ⟨rfl, k1, k2⟩; have K3 := hid k1; have K4 := hid (But.below_trans hbl.out k2); clear k1 k2)
        go_end0
        exact rput_no (by omega) K3.out K4.out
    · obtain rfl : k = ps.length := by omega
      have hr2 := hr.out
      rw [List.drop_length] at hr2
      have e0 : R = 0 := by rw [← HR2.out, if_pos (hr2.1 (by simp))]
      have ht2 := ht.out
      rw [List.drop_length, List.map_nil, List.flatten_nil, List.append_nil] at ht2
      subst ht2
      subst e0
      have R1 := H.out.below hbl.out
      have c0 := R1.cell0
      have f0 : wr.frozen? ⟨x, 0, none⟩ = false := frozen_of_row _ _ _ _ _ R1
      have htl2 := htl.out
      rw [List.take_length] at htl2
      have hadd := add_sv Tryd.prog 9 S (wrTexts ps) (by unfold total at htot; omega)
      obtain ⟨z, hz⟩ : ∃ z, Hid (sv (S ++ wrTexts ps) = .string z) := ⟨_, rfl⟩
      rw [hz.out] at hadd
      clear R1 hr2 htl2
      go_wp2
      go_end0
      exact rput_yes H.out hz.out hbl.out
end Go.Proofs.YtipcpdoejkoadaaDoor
