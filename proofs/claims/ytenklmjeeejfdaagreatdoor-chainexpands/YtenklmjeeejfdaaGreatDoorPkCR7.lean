import Derived.Test.YtenklmjeeejfdaaGreatDoorPkCR6
import Derived.Test.YtenklmjeeejfdaaGreatDoorPkI10
import Derived.Test.YtenklmjeeejfdaaGreatDoorPkTL34
import Derived.Test.YtenklmjeeejfdaaGreatDoorPkTL12
/- Layer 13, the document: Check (written by genCR7.py out of CP10) -/
namespace Go.Proofs.YtenklmjeeejfdaaGreatDoor
open Go.RowKit Go.Shelf
namespace Chn
theorem LL.shape {B : Nat} {w : World} {v : Value} {ps : List (List (List UInt8))} (h : LL B w v ps) : ∃ a c, v = .slice a ps.length c := by
  obtain ⟨vs, ρ, h1, h2, h3⟩ := h
  obtain ⟨a, c, e, _, _⟩ := h2.shape
  exact ⟨a, c, by rw [e, h1.len]⟩
theorem LL.at {B : Nat} {w : World} {v : Value} {ps : List (List (List UInt8))} (h : LL B w v ps) {j : Nat} (hj : j < ps.length) : ∃ (G c : Nat) (a : Option Addr) (ca : Nat), v = .slice (some ⟨G, 0, none⟩) ps.length c ∧ G < w.heap.size ∧ w.cell? ⟨G, j, none⟩ = some (.slice a (ps.getD j []).length ca) ∧ At w a (ps.getD j []) ∧ (ps.getD j []).length ≤ ca ∧ ca ≤ 9223372036854775807 := by
  obtain ⟨vs, ρ, h1, h2, h3⟩ := h
  have hjv : j < vs.length := by rw [h1.len]; exact hj
  obtain ⟨G, c, e, hc, hG⟩ := h2.cell (List.getElem?_eq_getElem hjv)
  have hp : ps[j]? = some (ps.getD j []) := by rw [List.getD_eq_getElem?_getD, List.getElem?_eq_getElem hj]; rfl
  obtain ⟨o, _⟩ := h1.own j _ _ (List.getElem?_eq_getElem hjv) hp
  obtain ⟨a, ca, eu, l1, l2⟩ := o.shape
  rw [eu] at hc o
  refine ⟨G, c, a, ca, by rw [e, h1.len], hG, hc, fun i x hx => ?_, l1, l2⟩
  have hsx : (svs (ps.getD j []))[i]? = some (sv x) := by unfold svs; rw [List.getElem?_map, hx]; rfl
  obtain ⟨g, c', e', hc', hg⟩ := o.cell hsx
  injection e' with e' _ _
  subst e'
  exact ⟨⟨g, 0, none⟩, rfl, hg, by rw [Addr.add_mid, Nat.zero_add]; exact hc'⟩
set_option maxRecDepth 100000 in
set_option maxHeartbeats 2000000 in
theorem rCheck_bad (cs : List Int) (H : List (List UInt8)) (m k n : Nat) (hm : Hid (cs.length = m)) (hk : Hid (H.length = k)) (ac ah ar : Option Addr) (cc chp cr : Nat) (w : World) (hA : AtI w ac cs) (hAh : At w ah H) (lc : m ≤ 9223372036854775807) (lh : k ≤ 9223372036854775807) (he : exE cs H ≠ 0) :
    Calls Tryz.prog 25 #[ch (.slice ac m cc) (.slice ah k chp), .slice ar n cr] w fun r w' => r = .returned (.int .i64 (exE cs H)) ∧ Below w.heap.size w w' := by
  have b0 := (Below.refl w.heap.size w).alloc (Nat.le_refl _) (.cells #[.slice ac m cc, .slice ah k chp] 25)
  have i1 := rExpand_bad cs H m k hm hk ac ah cc chp _ (hA.below b0 (Nat.le_refl _)) (hAh.below b0 (Nat.le_refl _)) lc lh he
  generalize exE cs H = E at *
  have h0 : (E != 0) = true := by simpa using he
  have h1 : ¬ E = 0 := he
  have B0 := hid b0
  clear hA hAh b0 hm hk
  go_enter Tryz.func25, Tryz.ntmps25
  go_wp2_with (go_at_call 24; refine i1.mono ?_; rintro r w1 ⟨rfl, b1⟩; have B1 := hid (B0.out.trans (b1.mono B0.out.size)); clear b1)
  go_ret
  exact ⟨rfl, B1.out⟩
set_option maxRecDepth 100000 in
set_option maxHeartbeats 2000000 in
theorem rCheck_form (hs : List Nat) (HH : Hds hs) (H R : List (List UInt8)) (m k n : Nat) (hm : Hid (hs.length = m)) (hk : Hid (H.length = k)) (hn : Hid (R.length = n)) (HT : Hid ((told hs).length = k)) (ac ah ar : Option Addr) (cc chp cr : Nat) (w : World) (hA : AtI w ac (ix hs)) (hAh : At w ah H) (hAr : At w ar R) (hq : hsB8 H = true) (qh1 : k ≤ chp) (qh2 : chp ≤ 9223372036854775807) (ln : n ≤ 9223372036854775807) (he : ¬ (n = m ∧ hsB8 R = true)) :
    Calls Tryz.prog 25 #[ch (.slice ac m cc) (.slice ah k chp), .slice ar n cr] w fun r w' => r = .returned (.int .i64 131) ∧ Below w.heap.size w w' := by
  have b0 := (Below.refl w.heap.size w).alloc (Nat.le_refl _) (.cells #[.slice ac m cc, .slice ah k chp] 25)
  have S0 := hid (ChI.new w (.slice ac m cc) (.slice ah k chp))
  have i1 := rExpand_ok hs HH H m k hm hk HT ac ah cc chp _ (hA.below b0 (Nat.le_refl _)) (hAh.below b0 (Nat.le_refl _)) hq qh1 qh2
  have B0 := hid b0
  obtain ⟨q, hq2⟩ : ∃ q, hsB8 R = q := ⟨_, rfl⟩
  have i2 := hid fun w' (bb : Below w.heap.size w w') => rhashes13_is R q hq2 ar cr w' (by rw [hn.out]; exact ln) (hAr.below bb (Nat.le_refl _))
  unfold Hid at i2
  rw [hn.out] at i2
  have i2 := hid i2
  rw [hq2] at he
  clear hA hAh hAr b0 hm hk hn hq HT HH hq2
  go_enter Tryz.func25, Tryz.ntmps25
  cases q with
  | false =>
    clear he
    go_wp2_with (first
      | (go_at_call 24; refine i1.mono ?_; rintro r w1 ⟨v1, rfl, L1, b1⟩; obtain ⟨la, lc, hv1⟩ := L1.shape; subst hv1; clear L1; have B1 := hid (B0.out.trans (b1.mono B0.out.size)); have c1 := (S0.out.below b1).c0; clear b1)
      | (go_at_call 47; refine (i2.out _ B1.out).mono ?_; rintro r w4 ⟨rfl, hw4⟩; have hw4 := hw4.symm; subst hw4))
    go_ret
    exact ⟨rfl, B1.out⟩
  | true =>
    have hne : ¬ n = m := fun e => he ⟨e, rfl⟩
    have z0 : ((n : Int) != (m : Int)) = true := by simp; omega
    have z1 : ((n : Int) == (m : Int)) = false := by simp; omega
    have z2 : ¬ (n : Int) = (m : Int) := by omega
    clear he
    go_wp2_with (first
      | (go_at_call 24; refine i1.mono ?_; rintro r w1 ⟨v1, rfl, L1, b1⟩; obtain ⟨la, lc, hv1⟩ := L1.shape; subst hv1; clear L1; have B1 := hid (B0.out.trans (b1.mono B0.out.size)); have c1 := (S0.out.below b1).c0; clear b1)
      | (go_at_call 47; refine (i2.out _ B1.out).mono ?_; rintro r w4 ⟨rfl, hw4⟩; have hw4 := hw4.symm; subst hw4))
    go_ret
    exact ⟨rfl, B1.out⟩
set_option maxRecDepth 100000 in
set_option maxHeartbeats 4000000 in
theorem rCheck_ok (hs : List Nat) (HH : Hds hs) (H R : List (List UInt8)) (m k : Nat) (hm : Hid (hs.length = m)) (hk : Hid (H.length = k)) (hn : Hid (R.length = m)) (HT : Hid ((told hs).length = k)) (ac ah ar : Option Addr) (cc chp cr : Nat) (w : World) (hA : AtI w ac (ix hs)) (hAh : At w ah H) (hAr : At w ar R) (hq : hsB8 H = true) (hr : hsB8 R = true) (qh1 : k ≤ chp) (qh2 : chp ≤ 9223372036854775807) :
    Calls Tryz.prog 25 #[ch (.slice ac m cc) (.slice ah k chp), .slice ar m cr] w fun r w' => r = .returned (.int .i64 (if ckA hs (exL hs H) R (m - 1) = true then 0 else 132)) ∧ Below w.heap.size w w' := by
  have b0 := (Below.refl w.heap.size w).alloc (Nat.le_refl _) (.cells #[.slice ac m cc, .slice ah k chp] 25)
  have S0 := hid (ChI.new w (.slice ac m cc) (.slice ah k chp))
  have i1 := rExpand_ok hs HH H m k hm hk HT ac ah cc chp _ (hA.below b0 (Nat.le_refl _)) (hAh.below b0 (Nat.le_refl _)) hq qh1 qh2
  have B0 := hid b0
  have lm : m ≤ 64 := by rw [← hm.out]; exact HH.le
  have lm1 : 1 ≤ m := by rw [← hm.out]; exact HH.ne
  have i2 := fun w' (bb : Below w.heap.size w w') => rhashes13_is R true hr ar cr w' (by rw [hn.out]; omega) (hAr.below bb (Nat.le_refl _))
  rw [hn.out] at i2
  obtain ⟨x, rfl⟩ := hA.pos (by simp [ix]; rw [hm.out]; omega)
  obtain ⟨y, rfl, _, _⟩ := atGet hAr (i := 0) (by rw [hn.out]; omega)
  have HA := hid (fun w' (bb : Below w.heap.size w w') => hA.below bb (Nat.le_refl _))
  have HR := hid (fun w' (bb : Below w.heap.size w w') => hAr.below bb (Nat.le_refl _))
  have few := hid (exL_few HH H)
  have hpl : Hid ((exL hs H).length = m - 1) := by unfold Hid; rw [← hm.out]; simp [exL]
  have z0 : ((m : Int) != (m : Int)) = false := by simp
  have z1 : ((m : Int) == (m : Int)) = true := by simp
  obtain ⟨V, hV⟩ : ∃ V : Int, Hid ((if ckA hs (exL hs H) R (m - 1) = true then (0 : Int) else 132) = V) := ⟨_, rfl⟩
  rw [hV.out]
  generalize exL hs H = ps at *
  have v1 : IntKind.i64.wrap ((m : Int) - 1) = (m : Int) - 1 := by rw [IntKind.wrap_i64]; omega
  have v2 : (m : Int) - 1 = ((m - 1 : Nat) : Int) := by omega
  obtain ⟨M, hM⟩ : ∃ M, m - 1 = M := ⟨_, rfl⟩
  have HMM := hid hM
  rw [hM] at v2
  clear hA hAh hAr b0 hk hq hr HT HH hM
  go_enter Tryz.func25, Tryz.ntmps25
  go_wp2_with (first
    | (go_at_call 24; refine i1.mono ?_; rintro r w1 ⟨v1, rfl, L1, b1⟩; obtain ⟨la, lc, hv1⟩ := L1.shape; subst hv1; rw [hpl.out, HMM.out]; have L1 := hid L1; have B1 := hid (B0.out.trans (b1.mono B0.out.size)); have S1 := hid (S0.out.below b1); have c1 := S1.out.c0; clear b1)
    | (go_at_call 47; refine (i2 _ B1.out).mono ?_; rintro r w4 ⟨rfl, hw4⟩; have hw4 := hw4.symm; subst hw4))
  clear i1 i2 c1 S0 B0
  go_loopw [4, 8, 9] (fun _ i _ w' => ∃ j : Nat, j ≤ M ∧ i = .int .i64 (j : Int) ∧ Hid (ckA hs ps R j = true) ∧ Hid (Below w1.heap.size w1 w')) (fun _ i _ _ => M - (intOf i).toNat)
  case atStart => exact ⟨0, by omega, rfl, rfl, Below.refl _ _⟩
  case round =>
    obtain ⟨j, hj, rfl, hck, hbw⟩ := hrel
    have bww := B1.out.trans (hbw.out.mono B1.out.size)
    by_cases hjm : j < M
    · have e0 : (j : Int) < (M : Int) := by omega
      have hmm := HMM.out
      have hj1 : j + 1 < hs.length := by rw [hm.out]; omega
      have hj0 : j < hs.length := by omega
      have hjp : j < ps.length := by rw [hpl.out]; omega
      obtain ⟨G, G1, pa, pc, eG, hG, hcG, hat, hp1, hp2⟩ := L1.out.at hjp
      injection eG with eG _ eGc
      clear eGc
      subst eG
      have fact : ∀ w', Below w1.heap.size w1 w' → w'.cell? ⟨w.heap.size, 0, none⟩ = some (.slice (some x) m cc) ∧ w'.cell? (x.add j) = some (.int .i64 (hs.getD j 0 : Int)) ∧ w'.cell? ⟨x.block, x.off + (j + 1), none⟩ = some (.int .i64 (hs.getD (j + 1) 0 : Int)) ∧ w'.cell? (y.add j) = some (.string ⟨(R.getD j []).toArray⟩) ∧ w'.cell? ⟨y.block, y.off + (j + 1), none⟩ = some (.string ⟨(R.getD (j + 1) []).toArray⟩) ∧ w'.cell? ⟨G, j, none⟩ = some (.slice pa (ps.getD j []).length pc) := fun w' hb' => by
        have bw' := B1.out.trans (hb'.mono B1.out.size)
        obtain ⟨a1, h1, _, q1⟩ := (HA.out _ bw') j _ (ix_at hj0)
        obtain ⟨a2, h2, _, q2⟩ := (HA.out _ bw') (j + 1) _ (ix_at hj1)
        obtain ⟨a3, h3, _, q3⟩ := atGet (HR.out _ bw') (i := j) (by rw [hn.out]; omega)
        obtain ⟨a4, h4, _, q4⟩ := atGet (HR.out _ bw') (i := j + 1) (by rw [hn.out]; omega)
        obtain rfl := Option.some.inj h1
        obtain rfl := Option.some.inj h2
        obtain rfl := Option.some.inj h3
        obtain rfl := Option.some.inj h4
        refine ⟨(S1.out.below hb').c0, q1, ?_, q3, ?_, (hb'.cell (p := ⟨G, j, none⟩) hG).trans hcG⟩
        · rw [← q2]; simp [Addr.add]
        · rw [show (.string ⟨(R.getD (j + 1) []).toArray⟩ : Value) = sv (R.getD (j + 1) []) from rfl, ← q4]; simp [Addr.add]
      have x0 := fact _ hbw.out
      have HF := hid fact
      have i3 := rConsistency_any (hs.getD j 0 : Int) (hs.getD (j + 1) 0 : Int) (R.getD j []) (R.getD (j + 1) []) (ps.getD j []) pa pc wr.drew ⟨hp1, hp2⟩ ((hat.below hbw.out (Nat.le_refl _)).below (Below.refl _ _).drew (Nat.le_refl _))
      have hC : ckC hs ps R j = conOf4 (hs.getD j 0 : Int) (hs.getD (j + 1) 0 : Int) (R.getD j []) (R.getD (j + 1) []) (ps.getD j []) := rfl
      rw [← hC] at i3
      clear hC
      unfold Hid at HF
      rw [show sv (R.getD j []) = Value.string ⟨(R.getD j []).toArray⟩ from rfl, show sv (R.getD (j + 1) []) = Value.string ⟨(R.getD (j + 1) []).toArray⟩ from rfl] at i3
      have hnx := hid (ckA_next (hs := hs) (ps := ps) (R := R) (n := j))
      have hno := hid (fun h => ckA_not (hs := hs) (ps := ps) (R := R) (k := j) (n := M) hjm h)
      obtain ⟨E, hE⟩ : ∃ E, ckC hs ps R j = E := ⟨_, rfl⟩
      unfold Hid at hnx hno
      rw [hE] at i3 hnx hno
      have hnx := hid hnx
      have hno := hid hno
      generalize hs.getD j 0 = a at *
      generalize hs.getD (j + 1) 0 = c at *
      generalize (⟨(R.getD j []).toArray⟩ : ByteArray) = ra at *
      generalize (⟨(R.getD (j + 1) []).toArray⟩ : ByteArray) = rb at *
      generalize (ps.getD j []).length = nl at *
      have HF := hid HF
      have v3 : IntKind.i64.wrap ((j : Int) + 1) = (j : Int) + 1 := by rw [IntKind.wrap_i64]; omega
      have v4 : ((j : Int) + 1).toNat = j + 1 := by omega
      have v5 : (0 : Int) ≤ (j : Int) + 1 := by omega
      have v6 : (j : Int) + 1 < (m : Int) := by omega
      have v7 : (j : Int) < (m : Int) := by omega
      have v8 : (0 : Int) ≤ (j : Int) := by omega
      have v9 : (j : Int) < ((M : Nat) : Int) := by omega
      clear fact hE hat hcG
      by_cases h0 : E = 0
      · have hck2 : Hid (ckA hs ps R (j + 1) = true) := by unfold Hid; rw [hnx.out, hck.out, decide_eq_true h0]; rfl
        have q0 : (E != 0) = false := by simp [h0]
        have q1 : (E == 0) = true := by simp [h0]
        clear hck hnx hno
        subst h0
        go_wp2
        go_region_held3 (fun w' => w'.cell? ⟨w.heap.size, 0, none⟩ = some (.slice (some x) m cc) ∧ w'.cell? (x.add j) = some (.int .i64 (a : Int)) ∧ w'.cell? ⟨x.block, x.off + (j + 1), none⟩ = some (.int .i64 (c : Int)) ∧ w'.cell? (y.add j) = some (.string ra) ∧ w'.cell? ⟨y.block, y.off + (j + 1), none⟩ = some (.string rb) ∧ w'.cell? ⟨G, j, none⟩ = some (.slice pa nl pc)) (first | exact x1 | exact x0) (first | (go_at_call 51; refine i3.mono ?_; rintro r w3 ⟨rfl, b3⟩; have b3 := drewBelow8 b3; have B3 := hid (hbw.out.trans (b3.mono hbw.out.size)); have x1 := HF.out _ B3.out; clear b3))
        go_wp2
        exact ⟨⟨j + 1, by omega, by go_num, hck2, B3⟩, by simp [intOf]; omega⟩
      · have eV : Hid (V = 132) := by unfold Hid; rw [← hV.out, if_neg]; rw [HMM.out, hno.out h0]; simp
        have q0 : (E != 0) = true := by simpa using h0
        have q1 : (E == 0) = false := by simpa using h0
        clear hck hnx hno
        go_wp2
        go_region_held3 (fun w' => w'.cell? ⟨w.heap.size, 0, none⟩ = some (.slice (some x) m cc) ∧ w'.cell? (x.add j) = some (.int .i64 (a : Int)) ∧ w'.cell? ⟨x.block, x.off + (j + 1), none⟩ = some (.int .i64 (c : Int)) ∧ w'.cell? (y.add j) = some (.string ra) ∧ w'.cell? ⟨y.block, y.off + (j + 1), none⟩ = some (.string rb) ∧ w'.cell? ⟨G, j, none⟩ = some (.slice pa nl pc)) (first | exact x1 | exact x0) (first | (go_at_call 51; refine i3.mono ?_; rintro r w3 ⟨rfl, b3⟩; have b3 := drewBelow8 b3; have B3 := hid (hbw.out.trans (b3.mono hbw.out.size)); have x1 := HF.out _ B3.out; clear b3))
        go_wp2
        go_ret
        exact ⟨by rw [eV.out]; rfl, B1.out.trans (B3.out.mono B1.out.size)⟩
    · obtain rfl : j = M := by omega
      have e0 : ¬ (j : Int) < (j : Int) := by omega
      have eV : Hid (V = 0) := by unfold Hid; rw [← hV.out, if_pos]; rw [HMM.out]; exact hck.out
      go_wp2
      go_ret
      exact ⟨by rw [eV.out]; rfl, bww⟩
theorem rCheck_any (cs : List Int) (H R : List (List UInt8)) (m k n : Nat) (hm : Hid (cs.length = m)) (hk : Hid (H.length = k)) (hn : Hid (R.length = n)) (ac ah ar : Option Addr) (cc chp cr : Nat) (w : World) (hA : AtI w ac cs) (hAh : At w ah H) (hAr : At w ar R) (qh1 : k ≤ chp) (qh2 : chp ≤ 9223372036854775807) (lc : m ≤ 9223372036854775807) (lh : k ≤ 9223372036854775807) (ln : n ≤ 9223372036854775807) :
    Calls Tryz.prog 25 #[ch (.slice ac m cc) (.slice ah k chp), .slice ar n cr] w fun r w' => r = .returned (.int .i64 (ckO cs H R)) ∧ Below w.heap.size w w' := by
  by_cases he : exE cs H = 0
  · obtain ⟨hs, rfl, HH, h1, h2⟩ := exE_ok he
    have hl : hs.length = m := by rw [← hm.out]; simp [ix]
    have e1 : ckO (ix hs) H R = if n = m ∧ hsB8 R = true then (if ckA hs (exL hs H) R (m - 1) = true then 0 else 132) else 131 := by
      unfold ckO
      rw [if_pos he, ix_toN, hn.out, hm.out]
    rw [e1]
    by_cases hc : n = m ∧ hsB8 R = true
    · rw [if_pos hc]
      obtain ⟨rfl, hr⟩ := hc
      exact rCheck_ok hs HH H R n k hl hk hn (show (told hs).length = k by rw [← h1, hk.out]) ac ah ar cc chp cr w hA hAh hAr h2 hr qh1 qh2
    · rw [if_neg hc]
      exact rCheck_form hs HH H R m k n hl hk hn (show (told hs).length = k by rw [← h1, hk.out]) ac ah ar cc chp cr w hA hAh hAr h2 qh1 qh2 ln hc
  · have e1 : ckO cs H R = exE cs H := by unfold ckO; rw [if_neg he]
    rw [e1]
    exact rCheck_bad cs H m k n hm hk ac ah ar cc chp cr w hA hAh lc lh he
end Chn
end Go.Proofs.YtenklmjeeejfdaaGreatDoor

/- Layer 13, the law: Expand and Check of both, whatever is handed in -/
namespace Go.Proofs.YtenklmjeeejfdaaGreatDoor
open Go.RowKit Go.Shelf
namespace Chn
theorem row_ownX {w : World} {g : Nat} {l : List (List UInt8)} (h : Row w g l) (hl : l.length ≤ 1099511627776) : OwnM 1 w (.slice (some ⟨g, 0, none⟩) l.length l.length) l.length (svs l) := by
  refine .inr ⟨g, l.length, rfl, Nat.le_refl _, by rw [maxLen]; omega, by rw [svs_length, Nat.mul_one], ?_, ?_, h.lt⟩
  · intro j u hu
    rw [Nat.zero_add, cell_of_row _ _ _ _ _ _ h]
    simpa using hu
  · rw [Nat.mul_one]
    exact there_of_row h 0 l.length (by simp [svs])
theorem idx_atC : ∀ {gs : List Nat}, gs.Pairwise (· < ·) → ∀ {k g : Nat}, gs[k]? = some g → gs.idxOf g = k
  | [], _, k, g, hk => by simp at hk
  | a :: gs, h, 0, g, hk => by
    obtain rfl : a = g := by simpa using hk
    simp
  | a :: gs, h, k + 1, g, hk => by
    obtain ⟨h1, h2⟩ := List.pairwise_cons.1 h
    have hk : gs[k]? = some g := by simpa using hk
    have hne := h1 g (List.mem_of_getElem? hk)
    rw [List.idxOf_cons, cond_eq_ite, if_neg (by simp; omega), idx_atC h2 hk]
theorem LsP.ll {w w' : World} {ps : List (List (List UInt8))} {r : Ending} (h : LsP w ps r w') (hl : ∀ p ∈ ps, p.length ≤ 1099511627776) (hn : ps.length ≤ 1000000) : ∃ v, r = .returned (.tuple #[v, .int .i64 0]) ∧ LL w.heap.size w' v ps ∧ Below w.heap.size w w' := by
  obtain ⟨G, gs, rfl, hR, hgl, hL, hG, hb⟩ := h
  have hz : (List.zipWith lst gs ps).length = ps.length := by rw [List.length_zipWith]; omega
  refine ⟨_, rfl, ⟨List.zipWith lst gs ps, fun b => if b ∈ gs then gs.idxOf b + 3 else 0, ⟨hz, hb.size, fun b hb' => if_neg fun hm => ?_, fun k u p hu hp => ?_⟩, ?_, fun b hb' => ?_⟩, hb⟩
  · have := (hL.ge b hm).1
    omega
  · have hk : k < gs.length := by have := (List.getElem?_eq_some_iff.1 hu).1; omega
    have e1 : gs[k]? = some gs[k] := List.getElem?_eq_getElem hk
    have e2 : u = lst gs[k] p := by
      rw [List.getElem?_zipWith, e1, hp] at hu
      exact (Option.some.inj hu).symm
    subst e2
    refine ⟨row_ownX (hL.row k _ p e1 hp) (hl p (List.mem_of_getElem? hp)), fun b hb' => ?_⟩
    have e3 : gs[k] = b := Option.some.inj hb'
    have hm : b ∈ gs := by rw [← e3]; exact List.getElem_mem hk
    simp only [if_pos hm]
    rw [← e3, idx_atC hL.up e1]
  · rw [hz]
    refine .inr ⟨G, ps.length, rfl, Nat.le_refl _, by rw [maxLen]; omega, by rw [hz, Nat.mul_one], fun j u hu => by rw [Nat.zero_add]; exact hR.cell hu, ?_, hR.lt⟩
    rw [Nat.mul_one]
    exact there_of_row hR 0 ps.length (by simp [hgl])
  · have e3 : G = b := Option.some.inj hb'
    subst e3
    exact ⟨hG, if_neg fun hm => by have := (hL.ge G hm).1; omega⟩
theorem LL.nilC {B : Nat} {w : World} (h : B ≤ w.heap.size) : LL B w (.slice none 0 0) [] :=
  ⟨[], fun _ => 0, ⟨rfl, h, fun _ _ => rfl, fun k u p hu => by simp at hu⟩, OwnM.nil 1 w, fun b hb => (by cases hb)⟩
def exR (cs : List Int) (H : List (List UInt8)) : List (List (List UInt8)) := if exE cs H = 0 then exL (cs.map Int.toNat) H else []
theorem exR_few (cs : List Int) (H : List (List UInt8)) : (exR cs H).length ≤ 63 ∧ ∀ p ∈ exR cs H, p.length ≤ 41 := by
  unfold exR
  split
  · rename_i he
    obtain ⟨hs, rfl, HH, h1, h2⟩ := exE_ok he
    rw [ix_toN]
    have := HH.le
    refine ⟨by simp [exL]; omega, fun p hp => ?_⟩
    obtain ⟨j, hj, e⟩ := List.mem_iff_getElem.1 hp
    have := exL_few HH H j
    rw [List.getD_eq_getElem?_getD, List.getElem?_eq_getElem hj] at this
    rw [← e]
    exact this
  · exact ⟨by simp, fun p hp => by cases hp⟩
def ExQ (w : World) (cs : List Int) (H : List (List UInt8)) (r : Ending) (w' : World) : Prop := ∃ v, r = .returned (.tuple #[v, .int .i64 (exE cs H)]) ∧ LL w.heap.size w' v (exR cs H) ∧ Below w.heap.size w w'
theorem expand13_all (cs : List Int) (H : List (List UInt8)) (m k : Nat) (hm : Hid (cs.length = m)) (hk : Hid (H.length = k)) (ac ah : Option Addr) (cc chp : Nat) (w : World) (hA : AtI w ac cs) (hAh : At w ah H) (lc : m ≤ 9223372036854775807) (lh : k ≤ 9223372036854775807) (T : Tabs w) :
    Calls Tryz.prog 17 #[ch (.slice ac m cc) (.slice ah k chp)] w (ExQ w cs H) := by
  by_cases he : exE cs H = 0
  · obtain ⟨hs, rfl, HH, h1, h2⟩ := exE_ok he
    have few := exR_few (ix hs) H
    have e1 : exR (ix hs) H = exL hs H := by unfold exR; rw [if_pos he, ix_toN]
    rw [e1] at few
    refine (expandC_ok hs HH H m k (show hs.length = m by rw [← hm.out]; simp [ix]) hk (show (told hs).length = k by rw [← h1, hk.out]) ac ah cc chp w hA hAh h2 T).mono fun r w' h => ?_
    obtain ⟨v, e, l, b⟩ := LsP.ll h (fun p hp => by have := few.2 p hp; omega) (by omega)
    exact ⟨v, by rw [e, he], by rw [e1]; exact l, b⟩
  · refine (expandC_bad cs H m k hm hk ac ah cc chp w hA hAh lc lh he).mono fun r w' ⟨e, b⟩ => ?_
    exact ⟨_, e, by unfold exR; rw [if_neg he]; exact LL.nilC b.size, b⟩
theorem rexpand13_all (cs : List Int) (H : List (List UInt8)) (m k : Nat) (hm : Hid (cs.length = m)) (hk : Hid (H.length = k)) (ac ah : Option Addr) (cc chp : Nat) (w : World) (hA : AtI w ac cs) (hAh : At w ah H) (lc : m ≤ 9223372036854775807) (qh1 : k ≤ chp) (qh2 : chp ≤ 9223372036854775807) :
    Calls Tryz.prog 24 #[ch (.slice ac m cc) (.slice ah k chp)] w (ExQ w cs H) := by
  by_cases he : exE cs H = 0
  · obtain ⟨hs, rfl, HH, h1, h2⟩ := exE_ok he
    have e1 : exR (ix hs) H = exL hs H := by unfold exR; rw [if_pos he, ix_toN]
    refine (rExpand_ok hs HH H m k (show hs.length = m by rw [← hm.out]; simp [ix]) hk (show (told hs).length = k by rw [← h1, hk.out]) ac ah cc chp w hA hAh h2 qh1 qh2).mono fun r w' ⟨v, e, l, b⟩ => ?_
    exact ⟨v, by rw [e, he], by rw [e1]; exact l, b⟩
  · refine (rExpand_bad cs H m k hm hk ac ah cc chp w hA hAh lc (by omega) he).mono fun r w' ⟨e, b⟩ => ?_
    exact ⟨_, e, by unfold exR; rw [if_neg he]; exact LL.nilC b.size, b⟩
end Chn
end Go.Proofs.YtenklmjeeejfdaaGreatDoor

/- Layer 13, the law: texts that are lent, kept -/
namespace Go.Proofs.YtenklmjeeejfdaaGreatDoor
open Go.RowKit Go.Shelf
namespace Chn
def spare13 : List UInt8 := [98, 101, 104, 105, 110, 100]
theorem spare13_sv : sv spare13 = .string ⟨#[98, 101, 104, 105, 110, 100]⟩ := rfl
def behind13 (j : Nat) : List (List UInt8) := List.replicate j spare13 ++ List.replicate (8 - j) []
theorem behind_len13 (j : Nat) (h : j ≤ 8) : (behind13 j).length = 8 := by simp [behind13]; omega
theorem behind_set13 : ∀ j : Fin 8, (behind13 j.val).set j.val spare13 = behind13 (j.val + 1) := by decide
theorem behind_get13 : ∀ j : Fin 8, (behind13 8)[j.val]? = some spare13 := by decide
theorem behind_step13 (ps : List (List UInt8)) (j : Nat) (h : j < 8) : (ps ++ behind13 j).set (ps.length + j) spare13 = ps ++ behind13 (j + 1) := by
  rw [List.set_append_right _ _ (by omega), show ps.length + j - ps.length = j from by omega, behind_set13 ⟨j, h⟩]
set_option maxRecDepth 100000 in
set_option maxHeartbeats 1000000 in
theorem lentTexts13_any (ps : List (List UInt8)) (a : Option Addr) (cap : Nat) (w : World) (hn : ps.length ≤ 8796093021952) (hA : At w a ps) :
    Calls Tryz.prog 23 #[.slice a ps.length cap] w fun e w' => e = .returned (.slice (some ⟨w.heap.size, 0, none⟩) (ps.length + 8) (ps.length + 8)) ∧ Row w' w.heap.size (ps ++ behind13 8) ∧ Below w.heap.size w w' := by
  have hmk := make_texts w (ps.length + 8) (by omega)
  have e8 : ((ps.length + 8 : Nat) : Int) = (ps.length : Int) + 8 := by omega
  rw [e8] at hmk
  have R1 : Row (w.alloc (.cells (svs (List.replicate (ps.length + 8) [])).toArray 9)) w.heap.size (List.replicate ps.length [] ++ List.replicate 8 []) := by
    rw [List.replicate_append_replicate]; exact heap_alloc_new w _
  have hb1 := (Below.refl w.heap.size w).alloc (Nat.le_refl _) (.cells (svs (List.replicate (ps.length + 8) [])).toArray 9)
  obtain ⟨w2, hcp, hR2, hb2⟩ := copy_texts _ w.heap.size a cap ps (List.replicate 8 []) (hA.below hb1 (Nat.le_refl _)) R1 (ps.length + 8) (ps.length + 8) (by simp)
  have B2 : Below w.heap.size w w2 := hb1.trans (hb2.below (Nat.le_refl _) (by rw [size_alloc]; omega))
  have HR2 := hid hR2
  have HB2 := hid B2
  clear hR2 B2 R1 hb2 hb1 hA
  generalize w.alloc (.cells (svs (List.replicate (ps.length + 8) [])).toArray 9) = w1 at *
  obtain ⟨n, hpn⟩ : ∃ n, ps.length = n := ⟨_, rfl⟩
  rw [hpn] at hmk hcp hn ⊢
  go_enter Tryz.func23, Tryz.ntmps23
  go_wp2
  clear hcp hmk
  go_loopw [4] (fun i w' => ∃ j : Nat, j ≤ 8 ∧ i = .int .i64 ((n : Int) + (j : Int)) ∧ Hid (Row w' w.heap.size (ps ++ behind13 j)) ∧ Hid (Below w.heap.size w w')) (fun i _ => n + 8 - (intOf i).toNat)
  case atStart => exact ⟨0, by omega, by simp, HR2, HB2⟩
  case round =>
    clear HR2 HB2
    obtain ⟨j, hj, rfl, hR, hB⟩ := hrel
    by_cases hlt : j < 8
    · have b0 : (n : Int) + (j : Int) < (n : Int) + 8 := by omega
      have b1 : (0 : Int) ≤ (n : Int) + (j : Int) := by omega
      have t1 : ((n : Int) + (j : Int)).toNat = n + j := by omega
      have hl : (ps ++ behind13 j).length = n + 8 := by rw [List.length_append, behind_len13 j (by omega), hpn]
      have cp := hR.out.cell (List.getElem?_eq_getElem (show n + j < (ps ++ behind13 j).length by omega))
      have fz := hR.out.free (show n + j < (ps ++ behind13 j).length by omega)
      have R' := hR.out.set (n + j) spare13
      rw [← hpn, behind_step13 ps j hlt, hpn] at R'
      have B' := hid (hB.out.setCell (p := ⟨w.heap.size, n + j, none⟩) (Nat.le_refl _) (sv spare13))
      rw [spare13_sv] at R' B'
      have R'' := hid R'
      clear R' hR hB
      go_wp2
      exact ⟨⟨j + 1, by omega, by rw [show (n : Int) + (j : Int) + 1 = (n : Int) + ((j + 1 : Nat) : Int) from by omega], R'', B'⟩, by simp [intOf]; omega⟩
    · obtain rfl : j = 8 := by omega
      have b0 : ¬ (n : Int) + ((8 : Nat) : Int) < (n : Int) + 8 := by omega
      go_wp2
      go_ret
      exact ⟨rfl, hR.out, hB.out⟩
set_option maxRecDepth 100000 in
set_option maxHeartbeats 2000000 in
theorem keptTexts13_any (ps : List (List UInt8)) (H : Nat) (c : Nat) (a : Option Addr) (cap : Nat) (w : World) (hn : ps.length ≤ 8796093021952) (hR : Row w H (ps ++ behind13 8)) (hA : At w a ps) :
    Calls Tryz.prog 27 #[.slice (some ⟨H, 0, none⟩) (ps.length + 8) c, .slice a ps.length cap] w fun e w' => e = .returned (.bool true) ∧ Below w.heap.size w w' ∧ w'.heap = w.heap := by
  have HR := hid hR
  have HA := hid hA
  obtain ⟨n, hpn⟩ : ∃ n, ps.length = n := ⟨_, rfl⟩
  have HN := hid hpn
  rw [hpn] at hn ⊢
  clear hR hA hpn
  obtain ⟨N, hN⟩ : ∃ N, n + 8 = N := ⟨_, rfl⟩
  rw [hN]
  go_enter Tryz.func27, Tryz.ntmps27
  go_wp2
  go_loopw [5] (fun i w' => ∃ j : Nat, j ≤ N ∧ i = .int .i64 (j : Int) ∧ Hid (Below w.heap.size w w' ∧ w'.heap = w.heap)) (fun i _ => N - (intOf i).toNat)
  case atStart => exact ⟨0, by omega, rfl, hid ⟨Below.refl _ _, rfl⟩⟩
  case round =>
    obtain ⟨j, hj, rfl, hB⟩ := hrel
    by_cases hjN : j < N
    · have b0 : (j : Int) < (N : Int) := by omega
      have j0 : (0 : Int) ≤ (j : Int) := by omega
      by_cases hjn : j < n
      · have b1 : (j : Int) < (n : Int) := by omega
        have b2 : ¬ (n : Int) ≤ (j : Int) := by omega
        have b3 : ¬ n ≤ j := by omega
        obtain ⟨z, hz⟩ : ∃ z, ps[j]? = some z := ⟨_, List.getElem?_eq_getElem (by rw [HN.out]; exact hjn)⟩
        obtain ⟨Z, hZ⟩ : ∃ Z : ByteArray, sv z = .string Z := ⟨_, rfl⟩
        have c0 := HR.out.cell (j := j) (p := z) (by rw [List.getElem?_append_left (by rw [HN.out]; exact hjn)]; exact hz)
        obtain ⟨x, rfl, xb, c1⟩ := HA.out j z hz
        rw [← hB.out.1.cell (p := ⟨H, j, none⟩) HR.out.lt] at c0
        rw [← hB.out.1.cell (p := x.add j) (by rw [addr_block]; exact xb)] at c1
        rw [hZ] at c0 c1
        have y3 : decide (Z = Z) = true := by simp
        have y4 : (Z.toList == Z.toList) = true := by simp
        have y5 : (Z.toList != Z.toList) = false := by simp
        clear hz xb hZ
        go_wp2
        go_quiet (fail)
        go_wp2
        exact ⟨⟨j + 1, by omega, by go_num, hid ⟨Gb.below_drewN8g hB.out.1 _, hB.out.2⟩⟩, by simp [intOf]; omega⟩
      · have b1 : ¬ (j : Int) < (n : Int) := by omega
        have b2 : (n : Int) ≤ (j : Int) := by omega
        have c0 := HR.out.cell (j := j) (p := spare13) (by rw [List.getElem?_append_right (by rw [HN.out]; omega), HN.out]; have := behind_get13 ⟨j - n, by omega⟩; exact this)
        rw [← hB.out.1.cell (p := ⟨H, j, none⟩) HR.out.lt] at c0
        rw [spare13_sv] at c0
        go_wp2
        go_quiet (fail)
        go_wp2
        exact ⟨⟨j + 1, by omega, by go_num, hid ⟨Gb.below_drewN8g hB.out.1 _, hB.out.2⟩⟩, by simp [intOf]; omega⟩
    · have b0 : ¬ (j : Int) < (N : Int) := by omega
      go_wp2
      go_ret
      exact ⟨rfl, hB.out.1, hB.out.2⟩
end Chn
end Go.Proofs.YtenklmjeeejfdaaGreatDoor

/- Layer 13, the law: the book's proves -/
namespace Go.Proofs.YtenklmjeeejfdaaGreatDoor
open Go.RowKit Go.Shelf
namespace Chn
namespace Gb
def TOK (W : List Value) : Prop := W.length ≤ 1099511627776 ∧ ∃ L : List (List UInt8), W = svs L
section
variable {B0 X : Nat} {m w w' : World} {ρ ρ' : Nat → Nat} {vh vw vi vj vh' vw' vi' vj' : Value} {hT wT hI wI hT' wT' hI' wI' : List Value} {WT WI WT' WI' : List (List Value)} {q q' h : Nat} {L : List (List UInt8)} {F F' : Nat → Prop}
def Kr (r : Nat) : Prop := r = 0 ∨ (3 ≤ r ∧ r < 1000) ∨ 3000 ≤ r
theorem Stays.own (s : Stays w w' ρ ρ') {x : Value} {n R : Nat} {c : List Value} (o : OwnM 1 w x n c) (hr : ∀ k, x.ownBlock = some k → ρ k = R) (hR : Kr R) : OwnM 1 w' x n c ∧ ∀ k, x.ownBlock = some k → ρ' k = R :=
  ⟨o.kept s.2.1 fun k hk => s.2.2 k (o.lt k hk) (by rw [hr k hk]; exact hR), fun k hk => by rw [s.1 k (o.lt k hk)]; exact hr k hk⟩
theorem Stays.ch (s : Stays w w' ρ ρ') {g : Nat} {a b : Value} (h : ChI w g a b) (hr : ρ g = 0) : ChI w' g a b ∧ ρ' g = 0 :=
  ⟨(s.2.2 g (lt_of_heap h) (.inl hr)).trans h, by rw [s.1 g (lt_of_heap h)]; exact hr⟩
end
end Gb
end Chn
end Go.Proofs.YtenklmjeeejfdaaGreatDoor

/- Layer 13, the law: are two lists of lists the same?; lists of lists with their roles -/
namespace Go.Proofs.YtenklmjeeejfdaaGreatDoor
open Go.RowKit Go.Shelf
namespace Chn
namespace Gb
structure Lx (w : World) (ρ : Nat → Nat) (v : Value) (vs : List Value) (ps : List (List (List UInt8))) (r : Nat) (R : Nat → Nat) : Prop where
  own : OwnM 1 w v vs.length vs
  r0 : ∀ b, v.ownBlock = some b → ρ b = r
  len : vs.length = ps.length
  el : ∀ (k : Nat) (u : Value) (p : List (List UInt8)), vs[k]? = some u → ps[k]? = some p → OwnM 1 w u p.length (svs p) ∧ ∀ b, u.ownBlock = some b → ρ b = R k
theorem Lx.stay {w w' : World} {ρ ρ' : Nat → Nat} {v : Value} {vs : List Value} {ps : List (List (List UInt8))} {r : Nat} {R : Nat → Nat} (x : Lx w ρ v vs ps r R) (s : Stays w w' ρ ρ') (hr : Kr r) (hR : ∀ k, k < ps.length → Kr (R k)) : Lx w' ρ' v vs ps r R :=
  ⟨(s.own x.own x.r0 hr).1, (s.own x.own x.r0 hr).2, x.len, fun k u p hu hp => by
    obtain ⟨o, b⟩ := x.el k u p hu hp
    exact s.own o b (hR k (List.getElem?_eq_some_iff.1 hp).1)⟩
theorem Lx.below {w w' : World} {ρ ρ' : Nat → Nat} {v : Value} {vs : List Value} {ps : List (List (List UInt8))} {r : Nat} {R : Nat → Nat} (x : Lx w ρ v vs ps r R) (hb : Below w.heap.size w w') (hρ : ∀ k, k < w.heap.size → ρ' k = ρ k) : Lx w' ρ' v vs ps r R :=
  ⟨x.own.below hb, fun b h => by rw [hρ b (x.own.lt b h)]; exact x.r0 b h, x.len, fun k u p hu hp => by
    obtain ⟨o, b⟩ := x.el k u p hu hp
    exact ⟨o.below hb, fun c h => by rw [hρ c (o.lt c h)]; exact b c h⟩⟩
theorem Lx.at {w : World} {ρ : Nat → Nat} {v : Value} {vs : List Value} {ps : List (List (List UInt8))} {r : Nat} {R : Nat → Nat} (x : Lx w ρ v vs ps r R) {k : Nat} (hk : k < ps.length) : ∃ (G c : Nat) (u : Value) (p : List (List UInt8)), v = .slice (some ⟨G, 0, none⟩) ps.length c ∧ G < w.heap.size ∧ w.cell? ⟨G, k, none⟩ = some u ∧ ps[k]? = some p ∧ OwnM 1 w u p.length (svs p) ∧ ∀ b, u.ownBlock = some b → ρ b = R k := by
  have hkv : k < vs.length := by rw [x.len]; exact hk
  obtain ⟨G, c, e, hc, hG⟩ := x.own.cell (List.getElem?_eq_getElem hkv)
  have hp := List.getElem?_eq_getElem hk
  obtain ⟨o, b⟩ := x.el k _ _ (List.getElem?_eq_getElem hkv) hp
  exact ⟨G, c, _, _, by rw [e, x.len], hG, hc, hp, o, b⟩
theorem Lx.shape {w : World} {ρ : Nat → Nat} {v : Value} {vs : List Value} {ps : List (List (List UInt8))} {r : Nat} {R : Nat → Nat} (x : Lx w ρ v vs ps r R) : ∃ a c, v = .slice a ps.length c := by
  obtain ⟨a, c, e, _, _⟩ := x.own.shape
  exact ⟨a, c, by rw [e, x.len]⟩
def nrL (ρ : Nat → Nat) (w : World) (v : Value) (σ : Nat → Nat) (r t : Nat) : Nat → Nat := fun k => if k < w.heap.size then ρ k else if v.ownBlock = some k then r else if σ k = 0 then 0 else σ k + t
theorem lx_of {w w' : World} {ρ : Nat → Nat} {v : Value} {ps : List (List (List UInt8))} (h : LL w.heap.size w' v ps) (r t : Nat) : ∃ vs ρ', Lx w' ρ' v vs ps r (fun k => 3 + t + k) ∧ ∀ k, k < w.heap.size → ρ' k = ρ k := by
  obtain ⟨vs, σ, h1, h2, h3⟩ := h
  refine ⟨vs, nrL ρ w v σ r t, ⟨h2, fun b hb => ?_, h1.len, fun k u p hu hp => ?_⟩, fun k hk => if_pos hk⟩
  · unfold nrL
    rw [if_neg (by have := (h3 b hb).1; omega), if_pos hb]
  · obtain ⟨o, b⟩ := h1.own k u p hu hp
    refine ⟨o, fun c hc => ?_⟩
    have e := b c hc
    unfold nrL
    rw [if_neg (fun hlt => by have := h1.lo c hlt; omega), if_neg (fun q => by have := (h3 c q).2; omega), if_neg (by omega), e]
    omega
theorem lx_ofR {w w' : World} {ρ : Nat → Nat} {v : Value} {ps : List (List (List UInt8))} (h : LL w.heap.size w' v ps) : ∃ vs, Lx w' (rx ρ w 0) v vs ps 0 (fun _ => 0) := by
  obtain ⟨vs, σ, h1, h2, h3⟩ := h
  refine ⟨vs, h2, fun b hb => rx_new (h3 b hb).1, h1.len, fun k u p hu hp => ?_⟩
  obtain ⟨o, b⟩ := h1.own k u p hu hp
  refine ⟨o, fun c hc => rx_new ?_⟩
  rcases Nat.lt_or_ge c w.heap.size with e | e
  · have := h1.lo c e; have := b c hc; omega
  · exact e
end Gb
end Chn
end Go.Proofs.YtenklmjeeejfdaaGreatDoor
