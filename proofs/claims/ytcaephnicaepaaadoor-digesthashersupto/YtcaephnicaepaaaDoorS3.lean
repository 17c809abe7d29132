import Derived.Test.YtcaephnicaepaaaDoorS2
import Derived.Deep.QuietTactic
namespace Go.Proofs.YtcaephnicaepaaaDoor
open Go.RowKit

def behind : List UInt8 := [98, 101, 104, 105, 110, 100]
theorem behind_sv : Value.string { data := #[98, 101, 104, 105, 110, 100] } = sv behind := rfl
/-- the list `all`: the parts ahead, "behind" in the places n to k -/
structure AllP (n : Nat) (ps : List (List UInt8)) (k : Nat) (L : List (List UInt8)) : Prop where
  len : L.length = n + 8
  fst : L.take n = ps
  snd : ∀ j, n ≤ j → j < k → L[j]? = some behind
theorem AllP.start (ps : List (List UInt8)) : AllP ps.length ps ps.length (ps ++ List.replicate 8 []) :=
  ⟨by simp, by simp, fun j h1 h2 => by omega⟩
theorem AllP.step {n k : Nat} {ps L : List (List UInt8)} (h : AllP n ps k L) (hk : n ≤ k) (hk8 : k < n + 8) : AllP n ps (k + 1) (L.set k behind) :=
  ⟨by rw [List.length_set]; exact h.len, by rw [List.take_set_of_le hk]; exact h.fst, fun j h1 h2 => by
    rw [List.getElem?_set]
    have := h.len
    by_cases e : k = j
    · rw [if_pos e, if_pos (by omega)]
    · rw [if_neg e]; exact h.snd j h1 (by omega)⟩

theorem joined_at {v : Value} {ps : List (List UInt8)} {t : List UInt8} (ht : Hid (ps.flatten = t)) (hlen : total ps ≤ 2305843009213693800) (hps : ps.length ≤ 9223372036854775807) (w : World) (hp : Slc w v ps) :
    Calls Tryd.prog 30 #[v] w fun e w' => e = .returned (sv t) ∧ Below w.heap.size w w' := by
  have h := joined_any v ps hlen hps w hp
  rwa [ht.out] at h
theorem sum_at {g o cap n : Nat} {ps : List (List UInt8)} {d : ByteArray} (hD : Hid (sv (Sha.sha ps.flatten) = .string d)) (hn : ps.length = n) (hlen : total ps < 2305843009213693800) (hps : ps.length ≤ 9223372036854775807) (w : World) (T : Tabs w) (hg : g < w.heap.size) (hp : Texts w g o ps) :
    Calls Tryd.prog 17 #[.slice (some ⟨g, o, none⟩) n cap] w fun e w' => e = .returned (.string d) ∧ Below w.heap.size w w' := by
  subst hn
  have h := sum_any g o cap ps hlen hps w T hg hp
  rwa [hD.out] at h
theorem rsum_sv {t : List UInt8} {d : ByteArray} (hD : Hid (sv (Sha.sha t) = .string d)) (ht : t.length ≤ 140737488355000) (w : World) :
    Calls Tryd.prog 29 #[sv t] w fun e w' => e = .returned (.string d) ∧ Below w.heap.size w w' := by
  have h := rsum_any ⟨t.toArray⟩ (by rw [sv_size]; exact ht) w
  rw [sv_data, hD.out] at h
  exact h
theorem leaf_sv {t : List UInt8} {d : ByteArray} (hD : Hid (sv (Sha.sha (0 :: t)) = .string d)) (ht : t.length ≤ 2305843009213690000) (w : World) (T : Tabs w) :
    Calls Tryd.prog 31 #[sv t] w fun e w' => e = .returned (.string d) ∧ Below w.heap.size w w' := by
  have h := leaf_any ⟨t.toArray⟩ (by rw [sv_size]; exact ht) w T
  rw [sv_data, hD.out] at h
  exact h
theorem rleaf_sv {t : List UInt8} {d : ByteArray} (hD : Hid (sv (Sha.sha (0 :: t)) = .string d)) (ht : t.length ≤ 140737488354000) (w : World) :
    Calls Tryd.prog 32 #[sv t] w fun e w' => e = .returned (.string d) ∧ Below w.heap.size w w' := by
  have h := rleaf_any ⟨t.toArray⟩ (by rw [sv_size]; exact ht) w
  rw [sv_data, hD.out] at h
  exact h
theorem empty_sv {d : ByteArray} (hD : Hid (sv (Sha.sha []) = .string d)) (w : World) (T : Tabs w) :
    Calls Tryd.prog 33 #[] w fun e w' => e = .returned (.string d) ∧ Below w.heap.size w w' := by
  have h := empty_any w T
  rwa [hD.out] at h
theorem rempty_sv {d : ByteArray} (hD : Hid (sv (Sha.sha []) = .string d)) (w : World) :
    Calls Tryd.prog 34 #[] w fun e w' => e = .returned (.string d) ∧ Below w.heap.size w w' := by
  have h := rempty_at (hid (Eq.refl (Sha.sha []))) w
  rwa [hD.out] at h
theorem AllP.bound {n k : Nat} {ps L : List (List UInt8)} (h : AllP n ps k L) (hk : n + 8 ≤ k) (ht : total ps ≤ 1048576) : ∀ p ∈ L, p.length ≤ 1048576 := by
  intro p hp
  obtain ⟨j, hj⟩ := List.getElem?_of_mem hp
  have hl := h.len
  have hjl := (List.getElem?_eq_some_iff.1 hj).1
  by_cases e : j < n
  · have hj2 : ps[j]? = some p := by rw [← h.fst, List.getElem?_take, if_pos e]; exact hj
    obtain ⟨hj3, hj4⟩ := List.getElem?_eq_some_iff.1 hj2
    have := total_take ps j hj3
    rw [hj4] at this
    omega
  · rw [h.snd j (by omega) (by omega)] at hj
    cases hj; decide
theorem total_le {L : List (List UInt8)} (h : ∀ p ∈ L, p.length ≤ 1048576) : total L ≤ L.length * 1048576 := by
  induction L with
  | nil => simp [total]
  | cons a l ih =>
    have h1 := h a (by simp)
    have h2 := ih (fun p hp => h p (by simp [hp]))
    simp only [total, List.flatten_cons, List.length_append, List.length_cons] at *
    omega
/-- the list behind the second loop: written over -/
structure Over (n : Nat) (L : List (List UInt8)) : Prop where
  len : L.length = n + 8
  le : ∀ p ∈ L, p.length ≤ 1048576
theorem Over.set {n : Nat} {L : List (List UInt8)} (h : Over n L) (k : Nat) {x : List UInt8} (hx : x.length ≤ 1048576) : Over n (L.set k x) :=
  ⟨by rw [List.length_set]; exact h.len, fun p hp => (List.mem_or_eq_of_mem_set hp).elim (h.le p) (fun e => e ▸ hx)⟩
theorem below_drewN {B : Nat} {a w : World} (h : Below B a w) (n : Nat) : Below B a (w.drewN n) := ⟨h.os, h.tape, h.output, h.size, h.block⟩
theorem x_sv : Value.string { data := #[120] } = sv [120] := rfl
theorem cell_setCell_other (w : World) (a b : Addr) (v : Value) (h : b.block ≠ a.block) : (w.setCell a v).cell? b = w.cell? b := World.cell?_of_block (w := w) (Below.heap_setCell w a v b.block h)

set_option maxRecDepth 100000 in
set_option maxHeartbeats 1000000 in
theorem sums_any (v0 v1 : Value) (ps os : List (List UInt8)) (hn : ps.length ≤ 1048576) (hm : os.length ≤ 1048576) (htot : total ps ≤ 1048576) (hos : ∀ p ∈ os, p.length ≤ 1048576) (w : World) (T : Tabs w) (h0 : Slc w v0 ps) (h1 : Slc w v1 os) :
    Calls Tryd.prog 8 #[v0, v1] w fun e w' => e = .returned (.bool true) ∧ Below w.heap.size w w' := by
  have hT := T.lt
  have H0 := hid h0
  have H1 := hid h1
  obtain ⟨a0, c0, rfl, h0⟩ := h0
  obtain ⟨a1, c1, rfl, h1⟩ := h1
  have C0 := hid h0
  have C1 := hid h1
  clear h0 h1
  have Hos := hid hos
  clear hos
  have hmk := fun w => make_texts w (ps.length + 8) (by omega)
  have e8 : ((ps.length + 8 : Nat) : Int) = (ps.length : Int) + 8 := by omega
  rw [e8] at hmk
  go_enter Tryd.func8, Tryd.ntmps8
  go_wp2_with (go_at_call 9; fail)
  refine (known_any _ T).mono ?_
  rintro e w1 ⟨rfl, hw1⟩
  have T1 := T.below hw1 T.lt
  have R1 : Row (w1.alloc (.cells (svs (List.replicate (ps.length + 8) [])).toArray 9)) w1.heap.size (List.replicate ps.length [] ++ List.replicate 8 []) := by
    rw [List.replicate_append_replicate]; exact heap_alloc_new w1 _
  obtain ⟨w2, hcp, hR2, hb2⟩ := copy_texts (w1.alloc (.cells (svs (List.replicate (ps.length + 8) [])).toArray 9)) w1.heap.size (.slice a0 ps.length c0) ps (List.replicate 8 []) ((H0.out.below hw1 (Nat.le_refl _)).below ((Below.refl w1.heap.size w1).alloc (Nat.le_refl _) _) (Nat.le_refl _)) R1 (ps.length + 8) (ps.length + 8) (by simp)
  have B2 : Below w.heap.size w w2 := hw1.trans ((((Below.refl w1.heap.size w1).alloc (Nat.le_refl _) _).trans (hb2.below (Nat.le_refl _) (by rw [size_alloc]; omega))).mono hw1.size)
  have s1 := hw1.size
  have HR2 := hid hR2
  have HB2 := hid B2
  clear hR2 B2 R1 hb2
  go_wp2
  generalize w1.heap.size = H at *
  clear hcp hmk
  go_loopw [8] (fun i w' => ∃ (k : Nat) (L : List (List UInt8)), ps.length ≤ k ∧ k ≤ ps.length + 8 ∧ i = .int .i64 k ∧ AllP ps.length ps k L ∧ Hid (Row w' H L) ∧ Hid (Below w.heap.size w w')) (fun i _ => ps.length + 8 - (intOf i).toNat)
  case atStart => exact ⟨ps.length, _, by omega, by omega, rfl, AllP.start ps, HR2, HB2⟩
  case round =>
    clear HR2 HB2
    obtain ⟨k, L, hk1, hk2, rfl, hA, hR, hB⟩ := hrel
    have hLl := hA.len
    by_cases hlt : k < ps.length + 8
    · have hlt' : (k : Int) < (ps.length : Int) + 8 := by omega
      have cp := hR.out.cell (List.getElem?_eq_getElem (show k < L.length by omega))
      have fz := hR.out.free (show k < L.length by omega)
      have R' := hid (hR.out.set k behind)
      have A' := hid (hA.step hk1 hlt)
      have B' := hid (hB.out.setCell (p := ⟨H, k, none⟩) s1 (sv behind))
      rw [← behind_sv] at R' B'
      go_wp2
      exact ⟨⟨k + 1, _, by omega, by omega, by go_num, A'.out, R', B'⟩, by simp [intOf]; omega⟩
    · obtain rfl : k = ps.length + 8 := by omega
      have hlt' : ¬ (ps.length : Int) + 8 < (ps.length : Int) + 8 := by omega
      obtain ⟨t, ht⟩ : ∃ t, Hid (ps.flatten = t) := ⟨_, rfl⟩
      obtain ⟨d, hD⟩ : ∃ d, Hid (sv (Sha.sha ps.flatten) = .string d) := ⟨_, rfl⟩
      have htl : t.length = total ps := by rw [← ht.out]; rfl
      go_wp2_with (go_at_call 30; fail)
      refine (joined_at ht (by omega) (by omega) _ (H0.out.below hB.out (Nat.le_refl _))).mono ?_
      rintro e w3 ⟨rfl, hw3⟩
      have hR3 := hid (hR.out.below hw3 hR.out.lt)
      have hB3 := hid (hB.out.trans (hw3.mono hB.out.size))
      clear hw3 hR hB
      go_wp2_with (go_at_call 17; fail)
      refine (sum_at hD rfl (by omega) (by omega) _ (T.below hB3.out hT) hR3.out.lt (hA.fst ▸ hR3.out.texts ps.length)).mono ?_
      rintro e w4 ⟨rfl, hw4⟩
      have hR4 := hid (hR3.out.below hw4 hR3.out.lt)
      have hB4 := hid (hB3.out.trans (hw4.mono hB3.out.size))
      clear hw4 hR3 hB3
      go_wp2_with (go_at_call 17; fail)
      refine (sum_at hD rfl (by omega) (by omega) _ (T.below hB4.out hT) hR4.out.lt (hA.fst ▸ hR4.out.texts ps.length)).mono ?_
      rintro e w5 ⟨rfl, hw5⟩
      have hR5 := hid (hR4.out.below hw5 hR4.out.lt)
      have hB5 := hid (hB4.out.trans (hw5.mono hB4.out.size))
      clear hw5 hR4 hB4
      go_wp2
      go_loopw [12, 13] (fun b i w' => ∃ k : Nat, k ≤ ps.length + 8 ∧ i = .int .i64 k ∧ b = .bool true ∧ Hid (Row w' H L) ∧ Hid (Below w.heap.size w w')) (fun _ i _ => ps.length + 8 - (intOf i).toNat)
      case atStart => exact ⟨0, by omega, rfl, rfl, hR5, hB5⟩
      case round =>
        clear hR5 hB5
        obtain ⟨k, hk, rfl, rfl, hR, hB⟩ := hrel
        by_cases hk8 : k < ps.length + 8
        · have hk8' : (k : Int) < (ps.length : Int) + 8 := by omega
          by_cases hkn : k < ps.length
          · have hkn' : (k : Int) < (ps.length : Int) := by omega
            obtain ⟨x, hx, hxb, hc⟩ := C0.out k _ (List.getElem?_eq_getElem hkn)
            subst hx
            have cp : wr.cell? (x.add k) = some (.string ⟨ps[k].toArray⟩) := (hB.out.cell (p := x.add k) (by rw [add_block]; exact hxb)).trans hc
            have cq : wr.cell? ⟨H, k, none⟩ = some (.string ⟨ps[k].toArray⟩) := hR.out.cell (p := ps[k]) (by rw [← List.getElem?_eq_getElem hkn]; conv => rhs; rw [← hA.fst]
                                                                                                             rw [List.getElem?_take, if_pos hkn])
            clear hc
            generalize ByteArray.mk ps[k].toArray = b at *
            have yb : (b.toList == b.toList) = true := by simp
            go_wp2
            go_quiet (fail)
            go_wp2
            exact ⟨⟨k + 1, by omega, by go_num, rfl, hR, below_drewN hB.out _⟩, by simp [intOf]; omega⟩
          · have hkn' : ¬ (k : Int) < (ps.length : Int) := by omega
            have hkn2 : (ps.length : Int) ≤ (k : Int) := by omega
            have cq : wr.cell? ⟨H, k, none⟩ = some (.string { data := #[98, 101, 104, 105, 110, 100] }) := hR.out.cell (p := behind) (hA.snd k (by omega) hk8)
            have yb : (({ data := #[98, 101, 104, 105, 110, 100] } : ByteArray).toList == ({ data := #[98, 101, 104, 105, 110, 100] } : ByteArray).toList) = true := by simp
            go_wp2
            go_quiet (fail)
            go_wp2
            exact ⟨⟨k + 1, by omega, by go_num, rfl, hR, below_drewN hB.out _⟩, by simp [intOf]; omega⟩
        · obtain rfl : k = ps.length + 8 := by omega
          have hk8' : ¬ (ps.length : Int) + 8 < (ps.length : Int) + 8 := by omega
          have O := hid (Over.mk hA.len (hA.bound (Nat.le_refl _) htot))
          go_wp2
          go_loopw [14] (fun i w' => ∃ (k : Nat) (L : List (List UInt8)), k ≤ ps.length ∧ i = .int .i64 k ∧ Hid (Over ps.length L) ∧ Hid (Row w' H L) ∧ Hid (Below w.heap.size w w')) (fun i _ => ps.length - (intOf i).toNat)
          case atStart => exact ⟨0, L, by omega, rfl, O, hR, hB⟩
          case round =>
            clear hA hLl hR hB O
            obtain ⟨k, M, hk, rfl, O, hR, hB⟩ := hrel
            have hM := O.out.len
            by_cases hkn : k < ps.length
            · have hkn' : (k : Int) < (ps.length : Int) := by omega
              have cp := hR.out.cell (List.getElem?_eq_getElem (show k < M.length by omega))
              have fz := hR.out.free (show k < M.length by omega)
              have R' := hR.out.set k [120]
              have O' := hid (O.out.set k (x := [120]) (by decide))
              have B' := hB.out.setCell (p := ⟨H, k, none⟩) s1 (sv [120])
              rw [← x_sv] at R' B'
              by_cases hko : k < os.length
              · have hko' : (k : Int) < (os.length : Int) := by omega
                obtain ⟨x, hx, hxb, hc⟩ := C1.out k _ (List.getElem?_eq_getElem hko)
                subst hx
                have hp := Hos.out os[k] (List.getElem_mem hko)
                have cq : (wr.setCell ⟨H, k, none⟩ (.string { data := #[120] })).cell? (x.add k) = some (sv os[k]) := (B'.cell (p := x.add k) (by rw [add_block]; exact hxb)).trans hc
                have cp2 := R'.cell (List.getElem?_eq_getElem (show k < (M.set k [120]).length by rw [List.length_set]; omega))
                have fz2 := R'.free (show k < (M.set k [120]).length by rw [List.length_set]; omega)
                have R2 := hid (R'.set k os[k])
                have O2 := hid (O'.out.set k (x := os[k]) hp)
                have B2 := hid (B'.setCell (p := ⟨H, k, none⟩) s1 (sv os[k]))
                clear hc R' B' O'
                have es : sv os[k] = .string ⟨os[k].toArray⟩ := rfl
                rw [es] at cq R2 B2
                clear es
                generalize ByteArray.mk os[k].toArray = b at *
                generalize os[k] = p at *
                go_wp2
                exact ⟨⟨k + 1, _, by omega, by go_num, O2, R2, B2⟩, by simp [intOf]; omega⟩
              · have hko' : ¬ (k : Int) < (os.length : Int) := by omega
                have R2 := hid R'
                have B2 := hid B'
                clear R' B'
                go_wp2
                exact ⟨⟨k + 1, _, by omega, by go_num, O', R2, B2⟩, by simp [intOf]; omega⟩
            · obtain rfl : k = ps.length := by omega
              have hkn' : ¬ (ps.length : Int) < (ps.length : Int) := by omega
              have hQl : (M.take ps.length).length = ps.length := by rw [List.length_take]; omega
              have hQt := total_le (L := M.take ps.length) (fun p hp => O.out.le p (List.mem_of_mem_take hp))
              rw [hQl] at hQt
              have hQ := hid (hR.out.texts ps.length)
              have hTx : ∀ w', Row w' H M → Texts w' H 0 (M.take ps.length) := fun w' h => h.texts ps.length
              have HTx := hid hTx
              clear hTx hQ
              generalize M.take ps.length = Q at *
              obtain ⟨q, hq⟩ : ∃ q, Hid (Q.flatten = q) := ⟨_, rfl⟩
              have hql : q.length = total Q := by rw [← hq.out]; rfl
              obtain ⟨dq, hdq⟩ : ∃ d, Hid (sv (Sha.sha Q.flatten) = .string d) := ⟨_, rfl⟩
              have hdq2 : Hid (sv (Sha.sha q) = .string dq) := by have := hdq.out; rw [hq.out] at this; exact this
              have hD2 : Hid (sv (Sha.sha t) = .string d) := by have := hD.out; rw [ht.out] at this; exact this
              obtain ⟨dl, hdl⟩ : ∃ d, Hid (sv (Sha.sha (0 :: t)) = .string d) := ⟨_, rfl⟩
              obtain ⟨de, hde⟩ : ∃ d, Hid (sv (Sha.sha []) = .string d) := ⟨_, rfl⟩
              have y1 : (d.toList == d.toList) = true := by simp
              have y2 : (dq.toList == dq.toList) = true := by simp
              have y3 : (dl.toList == dl.toList) = true := by simp
              have y4 : (de.toList == de.toList) = true := by simp
              go_wp2_with (go_at_call 17; fail)
              refine (sum_at hdq hQl (by omega) (by omega) _ (T.below hB.out hT) hR.out.lt (HTx.out _ hR.out)).mono ?_
              rintro e w6 ⟨rfl, hw6⟩
              have hR6 := hid (hR.out.below hw6 hR.out.lt)
              have hB6 := hid (hB.out.trans (hw6.mono hB.out.size))
              clear hw6 hR hB
              go_wp2_with (go_at_call 30; fail)
              refine (joined_at hq (by omega) (by omega) _ (by have := Slc.of_texts (cap := ps.length + 8) hR6.out.lt (HTx.out _ hR6.out); rwa [hQl] at this)).mono ?_
              rintro e w7 ⟨rfl, hw7⟩
              have B7 := hB6.out.trans (hw7.mono hB6.out.size)
              clear hw7 hB6 hR6 HTx
              go_wp2_with (go_at_call 29; fail)
              refine (rsum_sv hD2 (by omega) _).mono ?_
              rintro e w8 ⟨rfl, hw8⟩
              have B8 := B7.trans (hw8.mono B7.size)
              go_wp2_with (go_at_call 29; fail)
              refine (rsum_sv hdq2 (by omega) _).mono ?_
              rintro e w9 ⟨rfl, hw9⟩
              have B9 := B8.trans (hw9.mono B8.size)
              go_wp2_with (go_at_call 31; fail)
              refine (leaf_sv hdl (by omega) _ (T.below B9 hT)).mono ?_
              rintro e w10 ⟨rfl, hw10⟩
              have B10 := B9.trans (hw10.mono B9.size)
              go_wp2_with (go_at_call 32; fail)
              refine (rleaf_sv hdl (by omega) _).mono ?_
              rintro e w11 ⟨rfl, hw11⟩
              have B11 := B10.trans (hw11.mono B10.size)
              go_wp2_with (go_at_call 33; fail)
              refine (empty_sv hde _ (T.below B11 hT)).mono ?_
              rintro e w12 ⟨rfl, hw12⟩
              have B12 := B11.trans (hw12.mono B11.size)
              go_wp2_with (go_at_call 34; fail)
              refine (rempty_sv hde _).mono ?_
              rintro e w13 ⟨rfl, hw13⟩
              have B13 := B12.trans (hw13.mono B12.size)
              go_wp2
              go_ret
              exact ⟨rfl, B13⟩
end Go.Proofs.YtcaephnicaepaaaDoor
