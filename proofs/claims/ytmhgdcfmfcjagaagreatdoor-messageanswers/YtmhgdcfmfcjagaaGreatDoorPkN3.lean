import Derived.Test.YtmhgdcfmfcjagaaGreatDoorPkJ5
namespace Go.Proofs.YtmhgdcfmfcjagaaGreatDoor
open Go.RowKit Cod
set_option maxRecDepth 100000 in
set_option maxHeartbeats 1000000 in
theorem take_raw (b : Nat) (p : Nat) (st : RS) (x : Rd (List UInt8)) (w : World) (hF : Calls Tryz.prog 194 #[sv st.rest, .pointer (some ⟨p, 0, none⟩)] w fun r w' => r = .returned (tupS x) ∧ Below w.heap.size w w')
    (hx : ∀ v r, x = .good v r → r.length ≤ st.rest.length) (hnz : NZ x) (h : Rdr w b st) :
    Calls Tryz.prog 193 #[.pointer (some ⟨b, 0, none⟩), .func (.func 194) #[] #[.pointer (some ⟨p, 0, none⟩)]] w fun r w' => r = .returned (sv (st.val [] x)) ∧ Rdr w' b (st.step x) ∧ But b w w' := by
  have hl := h.lt
  have c0 : w.cell? ⟨b, 0, none⟩ = some (sv st.rest) := by rw [cell_of_row _ _ _ _ _ _ h.1]; rfl
  have c1 : w.cell? ⟨b, 1, none⟩ = some (.int .i64 (st.taken : Int)) := by rw [cell_of_row _ _ _ _ _ _ h.1]; rfl
  have c2 : w.cell? ⟨b, 2, none⟩ = some st.wrong := by rw [cell_of_row _ _ _ _ _ _ h.1]; rfl
  have hrow := hid h.1
  have hbd := h.2
  have h := hid h
  by_cases he : st.err = 0
  · rw [RS.wrong, if_pos he] at c2
    cases x with
    | bad e =>
      have hz := hnz e rfl
      have he' : ((e : Int) == 0) = false := by simp; omega
      rw [step_badx he, val_badx he]
      clear hx hnz
      simp only [tupS] at hF
      go_enter Tryz.func193, Tryz.ntmps193
      go_wp2_with (go_at_call 194; refine hF.mono ?_; rintro y w1 ⟨rfl, h1⟩; have H1 := hid h1; have d0 : w1.cell? ⟨b, 0, none⟩ = some (sv st.rest) := (h1.cell (p := ⟨b, 0, none⟩) hl).trans c0; have d1 : w1.cell? ⟨b, 1, none⟩ = some (.int .i64 (st.taken : Int)) := (h1.cell (p := ⟨b, 1, none⟩) hl).trans c1; have d2 : w1.cell? ⟨b, 2, none⟩ = some .nilIface := (h1.cell (p := ⟨b, 2, none⟩) hl).trans c2; have R1 := hid ((h1.block b hl).trans hrow.out); have f2 : w1.frozen? ⟨b, 2, none⟩ = false := frozen_of_row _ _ _ _ _ R1.out; clear h1)
      go_ret
      exact ⟨rfl, rdr_bad R1.out hbd hz, (But.ofBelow H1.out).setCell 2 _⟩
    | good v r =>
      have hlen := hx v r rfl
      rw [step_good he, val_good he]
      have hz1 := sv_size st.rest
      have hz2 := sv_size r
      obtain ⟨rb, hrb⟩ : ∃ rb, Hid (ByteArray.mk st.rest.toArray = rb) := ⟨_, rfl⟩
      obtain ⟨r2, hr2⟩ : ∃ r2, Hid (ByteArray.mk r.toArray = r2) := ⟨_, rfl⟩
      rw [hrb.out] at hz1
      rw [hr2.out] at hz2
      have e1 : sv st.rest = .string rb := by rw [sv, hrb.out]
      have e2 : sv r = .string r2 := by rw [sv, hr2.out]
      have E1 := hid e1
      have E2 := hid e2
      rw [e1] at c0
      clear hx hnz
      obtain ⟨tk, htk⟩ : ∃ tk : Nat, Hid (st.taken = tk) := ⟨_, rfl⟩
      obtain ⟨tk2, htk2⟩ : ∃ tk2 : Nat, Hid (st.taken + (st.rest.length - r.length) = tk2) := ⟨_, rfl⟩
      have htk3 : (tk : Int) + ((rb.size : Int) - (r2.size : Int)) = (tk2 : Int) := by rw [← htk.out, ← htk2.out, hz1, hz2]; omega
      rw [htk.out] at c1
      have b1 : (r2.size : Int) ≤ (rb.size : Int) := by rw [hz1, hz2]; omega
      have b2 : (tk : Int) + (rb.size : Int) ≤ 9223372036854775807 := by rw [← htk.out, hz1]; omega
      have b3 : (tk2 : Int) ≤ 9223372036854775807 := by omega
      simp only [tupS] at hF
      rw [e2, e1] at hF
      obtain ⟨vb, hvb⟩ : ∃ vb, Hid (sv v = .string vb) := ⟨_, rfl⟩
      have E3 := hvb
      rw [hvb.out] at hF
      have Hbd := hid hbd
      have Hlen := hid hlen
      clear e1 e2 hlen hz1 hz2 hbd
      go_enter Tryz.func193, Tryz.ntmps193
      go_wp2_with (go_at_call 194; fail)
      go_at_call 194
      refine hF.mono ?_
      rintro y w1 ⟨rfl, h1⟩
      have H1 := hid h1
      have d0 : w1.cell? ⟨b, 0, none⟩ = some (.string rb) := (h1.cell (p := ⟨b, 0, none⟩) hl).trans c0
      have d1 : w1.cell? ⟨b, 1, none⟩ = some (.int .i64 (tk : Int)) := (h1.cell (p := ⟨b, 1, none⟩) hl).trans c1
      have R1 := hid ((h1.block b hl).trans hrow.out)
      have f0 : w1.frozen? ⟨b, 0, none⟩ = false := frozen_of_row _ _ _ _ _ R1.out
      have f1 : w1.frozen? ⟨b, 1, none⟩ = false := frozen_of_row _ _ _ _ _ R1.out
      clear h1 c0 c1 c2 hF
      go_wp2
      go_region
      go_wp2
      go_ret
      exact ⟨by rw [E3.out]; rfl, rdr_good R1.out he E2.out htk2.out Hbd.out Hlen.out, but_good H1.out _ _⟩
  · rw [step_bad he, val_bad he]
    rw [RS.wrong, if_neg he, flt] at c2
    clear hF hnz hx
    go_enter Tryz.func193, Tryz.ntmps193
    go_wp2
    go_ret
    exact ⟨rfl, h.out, But.refl _ _⟩
end Go.Proofs.YtmhgdcfmfcjagaaGreatDoor

namespace Go.Proofs.YtmhgdcfmfcjagaaGreatDoor
open Go.RowKit Cod
set_option maxRecDepth 100000 in
set_option maxHeartbeats 1000000 in
theorem take_rising (b : Nat) (p : Nat) (st : RS) (x : Rd (List Nat)) (w : World) (hF : Calls Tryz.prog 196 #[sv st.rest, .pointer (some ⟨p, 0, none⟩)] w (LPost nvs w x))
    (hx : ∀ v r, x = .good v r → r.length ≤ st.rest.length) (hnz : NZ x) (h : Rdr w b st) :
    Calls Tryz.prog 195 #[.pointer (some ⟨b, 0, none⟩), .func (.func 196) #[] #[.pointer (some ⟨p, 0, none⟩)]] w fun r w' => ∃ v, r = .returned v ∧ Own w' w.heap.size v (nvs (st.val [] x)) ∧ Rdr w' b (st.step x) ∧ But b w w' := by
  have hl := h.lt
  have c0 : w.cell? ⟨b, 0, none⟩ = some (sv st.rest) := by rw [cell_of_row _ _ _ _ _ _ h.1]; rfl
  have c1 : w.cell? ⟨b, 1, none⟩ = some (.int .i64 (st.taken : Int)) := by rw [cell_of_row _ _ _ _ _ _ h.1]; rfl
  have c2 : w.cell? ⟨b, 2, none⟩ = some st.wrong := by rw [cell_of_row _ _ _ _ _ _ h.1]; rfl
  have hrow := hid h.1
  have hbd := h.2
  have h := hid h
  by_cases he : st.err = 0
  · rw [RS.wrong, if_pos he] at c2
    cases x with
    | bad e =>
      have hz := hnz e rfl
      have he' : ((e : Int) == 0) = false := by simp; omega
      rw [step_badx he, val_badx he]
      clear hx hnz
      change Calls Tryz.prog 196 #[sv st.rest, .pointer (some ⟨p, 0, none⟩)] w (fun r w' => r = .returned (.tuple #[.slice none 0 0, sv [], .int .i64 (e : Int)]) ∧ Below w.heap.size w w') at hF
      go_enter Tryz.func195, Tryz.ntmps195
      go_wp2_with (go_at_call 196; refine hF.mono ?_; rintro y w1 ⟨rfl, h1⟩; have H1 := hid h1; have d0 : w1.cell? ⟨b, 0, none⟩ = some (sv st.rest) := (h1.cell (p := ⟨b, 0, none⟩) hl).trans c0; have d1 : w1.cell? ⟨b, 1, none⟩ = some (.int .i64 (st.taken : Int)) := (h1.cell (p := ⟨b, 1, none⟩) hl).trans c1; have d2 : w1.cell? ⟨b, 2, none⟩ = some .nilIface := (h1.cell (p := ⟨b, 2, none⟩) hl).trans c2; have R1 := hid ((h1.block b hl).trans hrow.out); have f2 : w1.frozen? ⟨b, 2, none⟩ = false := frozen_of_row _ _ _ _ _ R1.out; clear h1)
      go_ret
      exact ⟨_, rfl, Own.nil _ _, rdr_bad R1.out hbd hz, (But.ofBelow H1.out).setCell 2 _⟩
    | good v r =>
      have hlen := hx v r rfl
      rw [step_good he, val_good he]
      have hz1 := sv_size st.rest
      have hz2 := sv_size r
      obtain ⟨rb, hrb⟩ : ∃ rb, Hid (ByteArray.mk st.rest.toArray = rb) := ⟨_, rfl⟩
      obtain ⟨r2, hr2⟩ : ∃ r2, Hid (ByteArray.mk r.toArray = r2) := ⟨_, rfl⟩
      rw [hrb.out] at hz1
      rw [hr2.out] at hz2
      have e1 : sv st.rest = .string rb := by rw [sv, hrb.out]
      have e2 : sv r = .string r2 := by rw [sv, hr2.out]
      have E1 := hid e1
      have E2 := hid e2
      rw [e1] at c0
      clear hx hnz
      obtain ⟨tk, htk⟩ : ∃ tk : Nat, Hid (st.taken = tk) := ⟨_, rfl⟩
      obtain ⟨tk2, htk2⟩ : ∃ tk2 : Nat, Hid (st.taken + (st.rest.length - r.length) = tk2) := ⟨_, rfl⟩
      have htk3 : (tk : Int) + ((rb.size : Int) - (r2.size : Int)) = (tk2 : Int) := by rw [← htk.out, ← htk2.out, hz1, hz2]; omega
      rw [htk.out] at c1
      have b1 : (r2.size : Int) ≤ (rb.size : Int) := by rw [hz1, hz2]; omega
      have b2 : (tk : Int) + (rb.size : Int) ≤ 9223372036854775807 := by rw [← htk.out, hz1]; omega
      have b3 : (tk2 : Int) ≤ 9223372036854775807 := by omega
      change Calls Tryz.prog 196 #[sv st.rest, .pointer (some ⟨p, 0, none⟩)] w (fun y w' => (∃ u, y = .returned (.tuple #[u, sv r, .int .i64 0]) ∧ Own w' w.heap.size u (nvs v)) ∧ Below w.heap.size w w') at hF
      rw [e2, e1] at hF
      have Hbd := hid hbd
      have Hlen := hid hlen
      clear e1 e2 hlen hz1 hz2 hbd
      go_enter Tryz.func195, Tryz.ntmps195
      go_wp2_with (go_at_call 196; fail)
      go_at_call 196
      refine hF.mono ?_
      rintro y w1 ⟨⟨u, rfl, ou⟩, h1⟩
      obtain ⟨ua, un, uc, rfl⟩ := Own.sl ou
      have OU := hid ou
      clear ou
      have H1 := hid h1
      have d0 : w1.cell? ⟨b, 0, none⟩ = some (.string rb) := (h1.cell (p := ⟨b, 0, none⟩) hl).trans c0
      have d1 : w1.cell? ⟨b, 1, none⟩ = some (.int .i64 (tk : Int)) := (h1.cell (p := ⟨b, 1, none⟩) hl).trans c1
      have R1 := hid ((h1.block b hl).trans hrow.out)
      have f0 : w1.frozen? ⟨b, 0, none⟩ = false := frozen_of_row _ _ _ _ _ R1.out
      have f1 : w1.frozen? ⟨b, 1, none⟩ = false := frozen_of_row _ _ _ _ _ R1.out
      clear h1 c0 c1 c2 hF
      go_wp2
      go_region
      go_wp2
      go_ret
      exact ⟨_, rfl, own_good OU.out hl _ _, rdr_good R1.out he E2.out htk2.out Hbd.out Hlen.out, but_good H1.out _ _⟩
  · rw [step_bad he, val_bad he]
    rw [RS.wrong, if_neg he, flt] at c2
    clear hF hnz hx
    go_enter Tryz.func195, Tryz.ntmps195
    go_wp2
    go_ret
    exact ⟨_, rfl, Own.nil _ _, h.out, But.refl _ _⟩
end Go.Proofs.YtmhgdcfmfcjagaaGreatDoor

namespace Go.Proofs.YtmhgdcfmfcjagaaGreatDoor
open Go.RowKit Cod
set_option maxRecDepth 100000 in
set_option maxHeartbeats 1000000 in
theorem take_texts (b : Nat) (p q : Nat) (st : RS) (x : Rd (List (List UInt8))) (w : World) (hF : Calls Tryz.prog 198 #[sv st.rest, .pointer (some ⟨p, 0, none⟩), .pointer (some ⟨q, 0, none⟩)] w (LPost svs w x))
    (hx : ∀ v r, x = .good v r → r.length ≤ st.rest.length) (hnz : NZ x) (h : Rdr w b st) :
    Calls Tryz.prog 190 #[.pointer (some ⟨b, 0, none⟩), .func (.func 198) #[] #[.pointer (some ⟨p, 0, none⟩), .pointer (some ⟨q, 0, none⟩)]] w fun r w' => ∃ v, r = .returned v ∧ Own w' w.heap.size v (svs (st.val [] x)) ∧ Rdr w' b (st.step x) ∧ But b w w' := by
  have hl := h.lt
  have c0 : w.cell? ⟨b, 0, none⟩ = some (sv st.rest) := by rw [cell_of_row _ _ _ _ _ _ h.1]; rfl
  have c1 : w.cell? ⟨b, 1, none⟩ = some (.int .i64 (st.taken : Int)) := by rw [cell_of_row _ _ _ _ _ _ h.1]; rfl
  have c2 : w.cell? ⟨b, 2, none⟩ = some st.wrong := by rw [cell_of_row _ _ _ _ _ _ h.1]; rfl
  have hrow := hid h.1
  have hbd := h.2
  have h := hid h
  by_cases he : st.err = 0
  · rw [RS.wrong, if_pos he] at c2
    cases x with
    | bad e =>
      have hz := hnz e rfl
      have he' : ((e : Int) == 0) = false := by simp; omega
      rw [step_badx he, val_badx he]
      clear hx hnz
      change Calls Tryz.prog 198 #[sv st.rest, .pointer (some ⟨p, 0, none⟩), .pointer (some ⟨q, 0, none⟩)] w (fun r w' => r = .returned (.tuple #[.slice none 0 0, sv [], .int .i64 (e : Int)]) ∧ Below w.heap.size w w') at hF
      go_enter Tryz.func190, Tryz.ntmps190
      go_wp2_with (go_at_call 198; refine hF.mono ?_; rintro y w1 ⟨rfl, h1⟩; have H1 := hid h1; have d0 : w1.cell? ⟨b, 0, none⟩ = some (sv st.rest) := (h1.cell (p := ⟨b, 0, none⟩) hl).trans c0; have d1 : w1.cell? ⟨b, 1, none⟩ = some (.int .i64 (st.taken : Int)) := (h1.cell (p := ⟨b, 1, none⟩) hl).trans c1; have d2 : w1.cell? ⟨b, 2, none⟩ = some .nilIface := (h1.cell (p := ⟨b, 2, none⟩) hl).trans c2; have R1 := hid ((h1.block b hl).trans hrow.out); have f2 : w1.frozen? ⟨b, 2, none⟩ = false := frozen_of_row _ _ _ _ _ R1.out; clear h1)
      go_ret
      exact ⟨_, rfl, Own.nil _ _, rdr_bad R1.out hbd hz, (But.ofBelow H1.out).setCell 2 _⟩
    | good v r =>
      have hlen := hx v r rfl
      rw [step_good he, val_good he]
      have hz1 := sv_size st.rest
      have hz2 := sv_size r
      obtain ⟨rb, hrb⟩ : ∃ rb, Hid (ByteArray.mk st.rest.toArray = rb) := ⟨_, rfl⟩
      obtain ⟨r2, hr2⟩ : ∃ r2, Hid (ByteArray.mk r.toArray = r2) := ⟨_, rfl⟩
      rw [hrb.out] at hz1
      rw [hr2.out] at hz2
      have e1 : sv st.rest = .string rb := by rw [sv, hrb.out]
      have e2 : sv r = .string r2 := by rw [sv, hr2.out]
      have E1 := hid e1
      have E2 := hid e2
      rw [e1] at c0
      clear hx hnz
      obtain ⟨tk, htk⟩ : ∃ tk : Nat, Hid (st.taken = tk) := ⟨_, rfl⟩
      obtain ⟨tk2, htk2⟩ : ∃ tk2 : Nat, Hid (st.taken + (st.rest.length - r.length) = tk2) := ⟨_, rfl⟩
      have htk3 : (tk : Int) + ((rb.size : Int) - (r2.size : Int)) = (tk2 : Int) := by rw [← htk.out, ← htk2.out, hz1, hz2]; omega
      rw [htk.out] at c1
      have b1 : (r2.size : Int) ≤ (rb.size : Int) := by rw [hz1, hz2]; omega
      have b2 : (tk : Int) + (rb.size : Int) ≤ 9223372036854775807 := by rw [← htk.out, hz1]; omega
      have b3 : (tk2 : Int) ≤ 9223372036854775807 := by omega
      change Calls Tryz.prog 198 #[sv st.rest, .pointer (some ⟨p, 0, none⟩), .pointer (some ⟨q, 0, none⟩)] w (fun y w' => (∃ u, y = .returned (.tuple #[u, sv r, .int .i64 0]) ∧ Own w' w.heap.size u (svs v)) ∧ Below w.heap.size w w') at hF
      rw [e2, e1] at hF
      have Hbd := hid hbd
      have Hlen := hid hlen
      clear e1 e2 hlen hz1 hz2 hbd
      go_enter Tryz.func190, Tryz.ntmps190
      go_wp2_with (go_at_call 198; fail)
      go_at_call 198
      refine hF.mono ?_
      rintro y w1 ⟨⟨u, rfl, ou⟩, h1⟩
      obtain ⟨ua, un, uc, rfl⟩ := Own.sl ou
      have OU := hid ou
      clear ou
      have H1 := hid h1
      have d0 : w1.cell? ⟨b, 0, none⟩ = some (.string rb) := (h1.cell (p := ⟨b, 0, none⟩) hl).trans c0
      have d1 : w1.cell? ⟨b, 1, none⟩ = some (.int .i64 (tk : Int)) := (h1.cell (p := ⟨b, 1, none⟩) hl).trans c1
      have R1 := hid ((h1.block b hl).trans hrow.out)
      have f0 : w1.frozen? ⟨b, 0, none⟩ = false := frozen_of_row _ _ _ _ _ R1.out
      have f1 : w1.frozen? ⟨b, 1, none⟩ = false := frozen_of_row _ _ _ _ _ R1.out
      clear h1 c0 c1 c2 hF
      go_wp2
      go_region
      go_wp2
      go_ret
      exact ⟨_, rfl, own_good OU.out hl _ _, rdr_good R1.out he E2.out htk2.out Hbd.out Hlen.out, but_good H1.out _ _⟩
  · rw [step_bad he, val_bad he]
    rw [RS.wrong, if_neg he, flt] at c2
    clear hF hnz hx
    go_enter Tryz.func190, Tryz.ntmps190
    go_wp2
    go_ret
    exact ⟨_, rfl, Own.nil _ _, h.out, But.refl _ _⟩
set_option maxRecDepth 100000 in
set_option maxHeartbeats 1000000 in
theorem take_hashes (b : Nat) (p : Nat) (st : RS) (x : Rd (List (List UInt8))) (w : World) (hF : Calls Tryz.prog 191 #[sv st.rest, .pointer (some ⟨p, 0, none⟩)] w (LPost svs w x))
    (hx : ∀ v r, x = .good v r → r.length ≤ st.rest.length) (hnz : NZ x) (h : Rdr w b st) :
    Calls Tryz.prog 190 #[.pointer (some ⟨b, 0, none⟩), .func (.func 191) #[] #[.pointer (some ⟨p, 0, none⟩)]] w fun r w' => ∃ v, r = .returned v ∧ Own w' w.heap.size v (svs (st.val [] x)) ∧ Rdr w' b (st.step x) ∧ But b w w' := by
  have hl := h.lt
  have c0 : w.cell? ⟨b, 0, none⟩ = some (sv st.rest) := by rw [cell_of_row _ _ _ _ _ _ h.1]; rfl
  have c1 : w.cell? ⟨b, 1, none⟩ = some (.int .i64 (st.taken : Int)) := by rw [cell_of_row _ _ _ _ _ _ h.1]; rfl
  have c2 : w.cell? ⟨b, 2, none⟩ = some st.wrong := by rw [cell_of_row _ _ _ _ _ _ h.1]; rfl
  have hrow := hid h.1
  have hbd := h.2
  have h := hid h
  by_cases he : st.err = 0
  · rw [RS.wrong, if_pos he] at c2
    cases x with
    | bad e =>
      have hz := hnz e rfl
      have he' : ((e : Int) == 0) = false := by simp; omega
      rw [step_badx he, val_badx he]
      clear hx hnz
      change Calls Tryz.prog 191 #[sv st.rest, .pointer (some ⟨p, 0, none⟩)] w (fun r w' => r = .returned (.tuple #[.slice none 0 0, sv [], .int .i64 (e : Int)]) ∧ Below w.heap.size w w') at hF
      go_enter Tryz.func190, Tryz.ntmps190
      go_wp2_with (go_at_call 191; refine hF.mono ?_; rintro y w1 ⟨rfl, h1⟩; have H1 := hid h1; have d0 : w1.cell? ⟨b, 0, none⟩ = some (sv st.rest) := (h1.cell (p := ⟨b, 0, none⟩) hl).trans c0; have d1 : w1.cell? ⟨b, 1, none⟩ = some (.int .i64 (st.taken : Int)) := (h1.cell (p := ⟨b, 1, none⟩) hl).trans c1; have d2 : w1.cell? ⟨b, 2, none⟩ = some .nilIface := (h1.cell (p := ⟨b, 2, none⟩) hl).trans c2; have R1 := hid ((h1.block b hl).trans hrow.out); have f2 : w1.frozen? ⟨b, 2, none⟩ = false := frozen_of_row _ _ _ _ _ R1.out; clear h1)
      go_ret
      exact ⟨_, rfl, Own.nil _ _, rdr_bad R1.out hbd hz, (But.ofBelow H1.out).setCell 2 _⟩
    | good v r =>
      have hlen := hx v r rfl
      rw [step_good he, val_good he]
      have hz1 := sv_size st.rest
      have hz2 := sv_size r
      obtain ⟨rb, hrb⟩ : ∃ rb, Hid (ByteArray.mk st.rest.toArray = rb) := ⟨_, rfl⟩
      obtain ⟨r2, hr2⟩ : ∃ r2, Hid (ByteArray.mk r.toArray = r2) := ⟨_, rfl⟩
      rw [hrb.out] at hz1
      rw [hr2.out] at hz2
      have e1 : sv st.rest = .string rb := by rw [sv, hrb.out]
      have e2 : sv r = .string r2 := by rw [sv, hr2.out]
      have E1 := hid e1
      have E2 := hid e2
      rw [e1] at c0
      clear hx hnz
      obtain ⟨tk, htk⟩ : ∃ tk : Nat, Hid (st.taken = tk) := ⟨_, rfl⟩
      obtain ⟨tk2, htk2⟩ : ∃ tk2 : Nat, Hid (st.taken + (st.rest.length - r.length) = tk2) := ⟨_, rfl⟩
      have htk3 : (tk : Int) + ((rb.size : Int) - (r2.size : Int)) = (tk2 : Int) := by rw [← htk.out, ← htk2.out, hz1, hz2]; omega
      rw [htk.out] at c1
      have b1 : (r2.size : Int) ≤ (rb.size : Int) := by rw [hz1, hz2]; omega
      have b2 : (tk : Int) + (rb.size : Int) ≤ 9223372036854775807 := by rw [← htk.out, hz1]; omega
      have b3 : (tk2 : Int) ≤ 9223372036854775807 := by omega
      change Calls Tryz.prog 191 #[sv st.rest, .pointer (some ⟨p, 0, none⟩)] w (fun y w' => (∃ u, y = .returned (.tuple #[u, sv r, .int .i64 0]) ∧ Own w' w.heap.size u (svs v)) ∧ Below w.heap.size w w') at hF
      rw [e2, e1] at hF
      have Hbd := hid hbd
      have Hlen := hid hlen
      clear e1 e2 hlen hz1 hz2 hbd
      go_enter Tryz.func190, Tryz.ntmps190
      go_wp2_with (go_at_call 191; fail)
      go_at_call 191
      refine hF.mono ?_
      rintro y w1 ⟨⟨u, rfl, ou⟩, h1⟩
      obtain ⟨ua, un, uc, rfl⟩ := Own.sl ou
      have OU := hid ou
      clear ou
      have H1 := hid h1
      have d0 : w1.cell? ⟨b, 0, none⟩ = some (.string rb) := (h1.cell (p := ⟨b, 0, none⟩) hl).trans c0
      have d1 : w1.cell? ⟨b, 1, none⟩ = some (.int .i64 (tk : Int)) := (h1.cell (p := ⟨b, 1, none⟩) hl).trans c1
      have R1 := hid ((h1.block b hl).trans hrow.out)
      have f0 : w1.frozen? ⟨b, 0, none⟩ = false := frozen_of_row _ _ _ _ _ R1.out
      have f1 : w1.frozen? ⟨b, 1, none⟩ = false := frozen_of_row _ _ _ _ _ R1.out
      clear h1 c0 c1 c2 hF
      go_wp2
      go_region
      go_wp2
      go_ret
      exact ⟨_, rfl, own_good OU.out hl _ _, rdr_good R1.out he E2.out htk2.out Hbd.out Hlen.out, but_good H1.out _ _⟩
  · rw [step_bad he, val_bad he]
    rw [RS.wrong, if_neg he, flt] at c2
    clear hF hnz hx
    go_enter Tryz.func190, Tryz.ntmps190
    go_wp2
    go_ret
    exact ⟨_, rfl, Own.nil _ _, h.out, But.refl _ _⟩
end Go.Proofs.YtmhgdcfmfcjagaaGreatDoor
