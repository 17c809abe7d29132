import Derived.Test.YtkpfpfjjkcefkaaCDV13
namespace Go.Proofs.Ytkpfpfjjkcefkaa
open Go.RowKit Go.Maps

theorem Dv.drewN {w : World} {a g b : Nat} {L : List (List UInt8)} {p : Nat → Option (List UInt8)} {left : Nat} {dead : Bool} (h : Dv w a g b L p left dead) (q : Nat) : Dv (w.drewN q) a g b L p left dead :=
  h.below (B := w.heap.size) (below_drewN' (Below.refl _ _) q) (Nat.le_refl _)
/-- how many bytes of the k-th stay -/
def nsF (ns : List Nat) (k : Nat) : Nat := ns[k]!
theorem Kp.drewN0 {a g b q : Nat} {w w' : World} (h : Kp a g b (w.drewN q) w') : Kp a g b w w' := ⟨h.os, h.tape, h.output, h.size, h.block⟩
set_option maxRecDepth 100000 in
set_option maxHeartbeats 1000000 in
theorem dCrash_bad {w : World} {a g b : Nat} {L : List (List UInt8)} {p : Nat → Option (List UInt8)} {left : Nat} {dead : Bool} (h : Dv w a g b L p left dead) (l : List (Int × Int)) (al : Option Addr) (c : Nat) (hl : l.length ≤ 9223372036854775807) (hA : AtK w al l) (hb : kpB (pls L.length p).length l = none) :
    Calls Try.prog 21 #[.pointer (some ⟨a, 0, none⟩), .slice al l.length c] w fun r w' => r = .returned (.int .i64 92) ∧ Below w.heap.size w w' := by
  have i1 := dPending h
  have hn4 : (pls L.length p).length ≤ 4096 := by have := pks_len L.length p; have := h.l96; rw [pls_len]; omega
  have i2 := fun w1 (hb1 : Below w.heap.size w w1) => keptOf_any l al c (pls L.length p).length w1 hn4 hl (hA.below hb1)
  obtain ⟨N, hN⟩ : ∃ N, (pls L.length p).length = N := ⟨_, rfl⟩
  rw [hN] at i2 hb
  obtain ⟨n, hn⟩ : ∃ n, l.length = n := ⟨_, rfl⟩
  rw [hn] at i2 ⊢
  have i2 : ∀ w1 (hb1 : Below w.heap.size w w1), Calls Try.prog 42 #[.slice al n c, .int .i64 (N : Int)] w1 (fun r w' => r = .returned (.tuple #[.slice none 0 0, .bool false]) ∧ Below w1.heap.size w1 w') := fun w1 hb1 => (i2 w1 hb1).mono fun r w' ⟨e1, e2⟩ => by
    rcases e2 with ⟨_, e2⟩ | ⟨ns, gk, e2, _⟩
    · exact ⟨e2, e1⟩
    · rw [hb] at e2; cases e2
  have HN := hid hN
  clear h hA hb hN hl hn
  go_enter Try.func21, Try.ntmps21
  go_wp2_with (go_at_call 17; fail)
  refine i1.mono ?_
  rintro r w1 ⟨v, rfl, hO, hge, b1⟩
  obtain ⟨av, cv, hv, _, hcv⟩ := hO.shape
  rw [HN.out] at hv
  subst hv
  have i3 := i2 w1 b1
  have B1 := hid b1
  clear i1 i2 hO hge b1
  go_wp2_with (go_at_call 42; refine i3.mono ?_; rintro r w2 ⟨rfl, b2⟩)
  go_ret
  exact ⟨rfl, B1.out.trans (b2.mono B1.out.size)⟩
set_option maxRecDepth 100000 in
set_option maxHeartbeats 2000000 in
theorem dCrash_ok {w : World} {a g b : Nat} {L : List (List UInt8)} {p : Nat → Option (List UInt8)} {left : Nat} {dead : Bool} (h : Dv w a g b L p left dead) (l : List (Int × Int)) (al : Option Addr) (c : Nat) (hl : l.length ≤ 9223372036854775807) (hA : AtK w al l) {ns : List Nat} (hb : kpB (pls L.length p).length l = some ns) :
    Calls Try.prog 21 #[.pointer (some ⟨a, 0, none⟩), .slice al l.length c] w fun r w' => r = .returned (.int .i64 0) ∧ Dv w' a g b (stL L (tks L.length p (nsF ns))) (fun _ => none) 0 false ∧ Kp a g b w w' := by
  have i1 := dPending h
  have hn4 : (pls L.length p).length ≤ 4096 := by have := pks_len L.length p; have := h.l96; rw [pls_len]; omega
  have i2 := fun w1 (hb1 : Below w.heap.size w w1) => keptOf_any l al c (pls L.length p).length w1 hn4 hl (hA.below hb1)
  obtain ⟨N, hN⟩ : ∃ N, (pls L.length p).length = N := ⟨_, rfl⟩
  rw [hN] at i2 hb hn4
  have hns : ns.length = N ∧ ∀ x ∈ ns, x ≤ 256 := by
    unfold kpB at hb
    rw [Option.map_eq_some_iff] at hb
    obtain ⟨st, e1, rfl⟩ := hb
    obtain ⟨s1, _, s3⟩ := kpF_ok _ _ e1
    exact ⟨s1, s3⟩
  obtain ⟨n, hn⟩ : ∃ n, l.length = n := ⟨_, rfl⟩
  rw [hn] at i2 ⊢
  have i2 : ∀ w1 (hb1 : Below w.heap.size w w1), Calls Try.prog 42 #[.slice al n c, .int .i64 (N : Int)] w1 (fun r w' => ∃ gk, r = .returned (.tuple #[.slice (some ⟨gk, 0, none⟩) N N, .bool true]) ∧ RowN w' gk ns ∧ w1.heap.size ≤ gk ∧ Below w1.heap.size w1 w') := fun w1 hb1 => (i2 w1 hb1).mono fun r w' ⟨e1, e2⟩ => by
    rcases e2 with ⟨e2, _⟩ | ⟨ns', gk, e2, e3, e4, e5⟩
    · rw [hb] at e2; cases e2
    · rw [hb] at e2
      obtain rfl := Option.some.inj e2
      exact ⟨gk, e3, e4, e5, e1⟩
  have hal := h.al
  have hgl := h.gl
  have hbl := h.bl
  have HH := hid h
  obtain ⟨D, _, hP⟩ := h.mp
  have HP := hid hP
  have HN := hid hN
  have HNS := hid hns
  clear h hA hb hN hl hn hP hns
  go_enter Try.func21, Try.ntmps21
  go_wp2_with (go_at_call 17; fail)
  refine i1.mono ?_
  rintro r w1 ⟨v, rfl, hO, hge, b1⟩
  obtain ⟨av, cv, hv, hcv1, hcv⟩ := hO.shape
  rw [HN.out] at hv hcv1
  have i3 := i2 w1 b1
  have HO := hid hO
  have HV := hid hge
  have H1 := hid (HH.out.below b1 (Nat.le_refl _))
  have B1 := hid b1
  subst hv
  have z1 := b1.size
  clear i1 i2 hO hge b1 HH
  go_wp2_with (go_at_call 42; refine i3.mono ?_; rintro r w2 ⟨gk, rfl, hR, hgk, b2⟩; have H2 := hid (H1.out.below b2 (Nat.le_refl _)); have B2 := hid (B1.out.trans (b2.mono B1.out.size)); have HR := hid hR; have z2 := b2.size; have HO2 := hid (HO.out.below b2); clear b2 hR H1 HO)
  go_loopw [27] (fun i w' => ∃ k : Nat, k ≤ N ∧ i = .int .i64 (k : Int) ∧ Hid (Dv w' a g b (stL L ((tks L.length p (nsF ns)).take k)) (stP p ((tks L.length p (nsF ns)).take k)) left dead) ∧ Hid (Kp a g b w2 w')) (fun i _ => N - (RowKit.intOf i).toNat)
  case atStart => exact ⟨0, by omega, rfl, H2, hid (Kp.refl _ _ _ _)⟩
  case round =>
    obtain ⟨k, hk, rfl, hD, hK⟩ := hrel
    by_cases hkn : k < N
    · have c0 : (k : Int) < (N : Int) := by omega
      have kp : (0 : Int) ≤ (k : Int) := by omega
      have hN := HN.out
      have hkl : k < (pls L.length p).length := by omega
      obtain ⟨gv, cv', e, _, _, hgv, x0, x1⟩ := OwnW.at2 (HO2.out.kp hK.out (fun j hj => by have := HV.out j hj; omega)) hkl
      injection e with e1 e2 e3
      subst e1
      obtain ⟨y1, y2, y3⟩ := pls_mem HP.out hkl
      have hsn := tks_take L.length p (nsF ns) hkl
      have hgk2 : gk < w2.heap.size := lt_of_heap HR.out
      have hRr : RowN wr gk ns := (hK.out.block gk hgk2 (by omega) (by omega) (by omega)).trans HR.out
      have hkk : k < ns.length := by rw [HNS.out.1]; exact hkn
      have cR := hRr.cell hkk
      have hn256 : ns[k] ≤ 256 := HNS.out.2 _ (List.getElem_mem hkk)
      obtain ⟨⟨i, s⟩, his⟩ : ∃ x, (pls L.length p)[k] = x := ⟨_, rfl⟩
      rw [his] at x0 x1 y1 y2 hsn
      rw [show nsF ns k = ns[k] from getElem!_pos ns k hkk] at hsn
      obtain ⟨M, hM⟩ : ∃ M, ns[k] = M := ⟨_, rfl⟩
      rw [hM] at cR hn256 hsn
      have b5 := (Below.refl wr.heap.size wr).alloc (Nat.le_refl _) (.cells #[.int .i64 (i : Int), .string ⟨s.toArray⟩] 52)
      have r5 := heap_alloc_new wr (.cells #[.int .i64 (i : Int), .string ⟨s.toArray⟩] 52)
      have hgkr : gk < wr.heap.size := lt_of_heap hRr
      obtain ⟨w5, hw5⟩ : ∃ w5, wr.alloc (.cells #[.int .i64 (i : Int), .string ⟨s.toArray⟩] 52) = w5 := ⟨_, rfl⟩
      rw [hw5] at b5 r5
      have cR5 := (b5.cell (p := ⟨gk, k, none⟩) hgkr).trans cR
      have u0 : w5.cell? ⟨wr.heap.size, 0, none⟩ = some (.int .i64 (i : Int)) := by rw [cell_of_row _ _ _ _ _ _ r5]; rfl
      have u1 : w5.cell? ⟨wr.heap.size, 1, none⟩ = some (.string ⟨s.toArray⟩) := by rw [cell_of_row _ _ _ _ _ _ r5]; rfl
      have eL : (stL L ((tks L.length p (nsF ns)).take k)).set i (torn s (stL L ((tks L.length p (nsF ns)).take k))[i]! M) = stL L ((tks L.length p (nsF ns)).take (k + 1)) := by
        rw [hsn]; exact (stL_snoc L _ ((i, s), M)).symm
      have eP : dlt (stP p ((tks L.length p (nsF ns)).take k)) i = stP p ((tks L.length p (nsF ns)).take (k + 1)) := by
        rw [hsn]; exact (stP_snoc p _ ((i, s), M)).symm
      have X5 : w5.cell? ⟨wr.heap.size, 0, none⟩ = some (.int .i64 (i : Int)) ∧ w5.cell? ⟨wr.heap.size, 1, none⟩ = some (.string ⟨s.toArray⟩) ∧ w5.cell? ⟨gk, k, none⟩ = some (.int .i64 (M : Int)) := ⟨u0, u1, cR5⟩
      have hq5 : wr.heap.size < w5.heap.size := lt_of_heap r5
      have X6 : ∀ (q : Nat) (w6 : World), Kp a g b (w5.drewN q) w6 → w6.cell? ⟨wr.heap.size, 0, none⟩ = some (.int .i64 (i : Int)) ∧ w6.cell? ⟨wr.heap.size, 1, none⟩ = some (.string ⟨s.toArray⟩) ∧ w6.cell? ⟨gk, k, none⟩ = some (.int .i64 (M : Int)) := fun q w6 hk => by
        have zr := hK.out.size
        have e1 := hk.block wr.heap.size hq5 (by omega) (by omega) (by omega)
        have e2 := hk.block gk (show gk < w5.heap.size by omega) (by omega) (by omega) (by omega)
        exact ⟨(World.cell?_of_block e1).trans u0, (World.cell?_of_block e1).trans u1, (World.cell?_of_block e2).trans cR5⟩
      have i5 : ∀ q, Calls Try.prog 39 #[.pointer (some ⟨a, 0, none⟩), .agg #[.int .i64 (i : Int), .string ⟨s.toArray⟩], .int .i64 (M : Int)] (w5.drewN q) fun r w' => r = .returned (.tuple #[]) ∧ Dv w' a g b (stL L ((tks L.length p (nsF ns)).take (k + 1))) (stP p ((tks L.length p (nsF ns)).take (k + 1))) left dead ∧ Kp a g b (w5.drewN q) w' := fun q => by
        have h := settle_any ((hD.out.below b5 (Nat.le_refl _)).drewN q) (i := i) (by rw [stL_len]; exact y1) y2 (n := M) hn256
        rw [eL, eP] at h
        exact h
      have K5 := hid (hK.out.trans (Kp.ofBelow b5))
      clear hD hK b5 r5 hsn his y1 y2 y3 hN hkl e2 e3 eL eP hM hRr cR
      go_wp2
      go_region_held3 (fun w' => w'.cell? ⟨wr.heap.size, 0, none⟩ = some (.int .i64 (i : Int)) ∧ w'.cell? ⟨wr.heap.size, 1, none⟩ = some (.string ⟨s.toArray⟩) ∧ w'.cell? ⟨gk, k, none⟩ = some (.int .i64 (M : Int))) (first | exact X6 1 _ hK6 | exact X5) ((go_at_call 39; refine (i5 1).mono ?_; rintro r w6 ⟨rfl, hD6, hK6⟩))
      go_wp2
      exact ⟨⟨k + 1, by omega, by go_num, hid hD6, hid (K5.out.trans (Kp.drewN0 hK6))⟩, by simp [RowKit.intOf]; omega⟩
    · obtain rfl : k = N := by omega
      have c0 : ¬ (k : Int) < (k : Int) := by omega
      have hD := hD.out
      rw [List.take_of_length_le (by rw [tks_len, HN.out]; omega), stP_none HP.out] at hD
      obtain ⟨cap, m1, _, _⟩ := hD.row
      obtain ⟨cap', k1, k2, d0, d1, d2, d3⟩ := hD.c0
      have f3 : wr.frozen? ⟨a, 3, none⟩ = false := frozen_of_row _ _ _ _ _ m1
      have hD2 := hD.setDead false
      obtain ⟨cap2, m2, _, _⟩ := hD2.row
      obtain ⟨cap2', _, _, n0, n1, n2, n3⟩ := hD2.c0
      have f2 : (wr.setCell ⟨a, 3, none⟩ (.bool false)).frozen? ⟨a, 2, none⟩ = false := frozen_of_row _ _ _ _ _ m2
      have HD3 := hid (hD2.setLeft 0 (by omega))
      have HK3 := hid (((Kp.ofBelow B2.out).trans hK.out).setCell 3 (.bool false))
      clear hD hD2 m1 m2 hK
      go_wp2
      go_ret
      exact ⟨rfl, HD3.out, HK3.out.setCell 2 _⟩
end Go.Proofs.Ytkpfpfjjkcefkaa
