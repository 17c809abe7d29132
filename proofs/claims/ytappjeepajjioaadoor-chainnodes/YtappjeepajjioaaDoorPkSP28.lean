import Derived.Test.YtappjeepajjioaaDoorPkSP24
import Derived.Test.YtappjeepajjioaaDoorPkO8
import Derived.Test.YtappjeepajjioaaDoorPkR4
import Derived.Test.YtappjeepajjioaaDoorPkI1
import Derived.Test.YtappjeepajjioaaDoorPkSH3
namespace Go.Proofs.YtappjeepajjioaaDoor
open Go.RowKit Go.Shelf
/-- H5 -/
def foldA (n : Int) (K : List (Int × Int)) (H : List (List UInt8)) (b e : Int) : ByteArray × Int :=
  if 1 ≤ n ∧ n ≤ 1099511627776 then
    if K.length = H.length ∧ K.length ≤ 4096 then
      if hsB8 H = true then
        if insB n b e = true then
          match foS (e.toNat - b.toNat) b.toNat (e.toNat - b.toNat) (witS b e (prd K (bas H))) with
          | none => (⟨#[]⟩, 82)
          | some s => (s, 0)
        else (⟨#[]⟩, 80)
      else (⟨#[]⟩, 1)
    else (⟨#[]⟩, 83)
  else (⟨#[]⟩, 81)
theorem insB_facts {n b e : Int} (h : insB n b e = true) : 1 ≤ n ∧ n ≤ 1099511627776 ∧ 0 ≤ b ∧ b < e ∧ e ≤ n := by
  unfold insB at h
  rw [Bool.and_eq_true, decide_eq_true_eq] at h
  obtain ⟨h1, h2⟩ := h
  have := Tree.insF_in _ _ _ _ _ h2 (by omega)
  omega
set_option maxRecDepth 100000 in
set_option maxHeartbeats 8000000 in
theorem foldF_any (n : Int) (K : List (Int × Int)) (H : List (List UInt8)) (b e : Int) (ak ah : Option Addr) (ck ch : Nat) (w : World) (hkl : K.length ≤ 9223372036854775807) (hhl : H.length ≤ 9223372036854775807) (hK : AtP w ak K) (hH : At w ah H) (T : Tabs w) :
    Calls Tryd.prog 49 #[.int .i64 n, .slice ak K.length ck, .slice ah H.length ch, sg b e] w fun r w' => r = .returned (.tuple #[.string (foldA n K H b e).1, .int .i64 (foldA n K H b e).2]) ∧ Below w.heap.size w w' := by
  have S0 := hid (SpI.new w b e)
  have B0 := hid ((Below.refl _ w).alloc (Nat.le_refl _) (.cells #[.int .i64 b, .int .i64 e] 45))
  have c0 := S0.out.c0
  have c1 := S0.out.c1
  obtain ⟨A, hA⟩ : ∃ A, Hid (foldA n K H b e = A) := ⟨_, rfl⟩
  rw [hA.out]
  by_cases h1 : 1 ≤ n ∧ n ≤ 1099511627776
  · have i1 := fun w' => isSize_is n true (by simpa using h1) w'
    by_cases h2 : K.length = H.length ∧ K.length ≤ 4096
    · have hH0 : At (w.alloc (.cells #[.int .i64 b, .int .i64 e] 45)) ah H := hH.below B0.out (Nat.le_refl _)
      by_cases h3 : hsB8 H = true
      · have i2 := areHashes8_is H true h3 ah ch _ hhl hH0
        have i3 := fun w' => inside_any n b e w'
        by_cases h4 : insB n b e = true
        · rw [h4] at i3
          have hf := insB_facts h4
          obtain ⟨b', hb'⟩ := Int.eq_ofNat_of_zero_le hf.2.2.1
          obtain ⟨e', he'⟩ := Int.eq_ofNat_of_zero_le (show 0 ≤ e by omega)
          have i4 := fun w' (hb : Below w.heap.size w w') => paired_any K H ak ah ck ch w' h2.1 h2.2 (hK.below hb (Nat.le_refl _)) (hH.below hb (Nat.le_refl _))
          obtain ⟨P, hP⟩ : ∃ P, Hid (prd K (bas H) = P) := ⟨_, rfl⟩
          have lP : Hid (P.length ≤ 4096) := by unfold Hid; rw [← hP.out, prd_len K (bas H) (by unfold bas; rw [List.length_map]; exact h2.1)]; exact h2.2
          rw [hP.out] at i4
          have i5 := fun v w' (ho : OwnS3 w' v P) => within_any b e P v w' ho (by have := lP.out; omega)
          obtain ⟨R, hR⟩ : ∃ R, Hid (witS b e P = R) := ⟨_, rfl⟩
          have lR : Hid (R.length ≤ 4096) := by unfold Hid; rw [← hR.out]; exact Nat.le_trans (witS_len b e P) lP.out
          rw [hR.out] at i5
          have i6 := fun v w' (ho : OwnS3 w' v R) (hb : Below w.heap.size w w') => fold8_any (e' - b') b' (e' - b') R v w' (Nat.le_refl _) (by omega) (by omega) ho lR.out (T.below hb T.lt)
          rw [show b' + (e' - b') = e' by omega, ← hb', ← he'] at i6
          have hAA : Hid (A = match foS (e' - b') b' (e' - b') R with
              | none => (⟨#[]⟩, 82)
              | some s => (s, 0)) := by
            unfold Hid
            rw [← hA.out]
            unfold foldA
            rw [if_pos h1, if_pos h2, if_pos h3, if_pos h4, hP.out, hR.out, hb', he', Int.toNat_natCast, Int.toNat_natCast]
          rw [← h2.1] at i2 i4 ⊢
          have q0 : ¬ (4096 : Int) < (K.length : Int) := by omega
          generalize K.length = m at *
          clear hK hH hH0 T h2 h3 h4 hf h1 hA
          obtain ⟨o, ho⟩ : ∃ o, Hid (foS (e' - b') b' (e' - b') R = o) := ⟨_, rfl⟩
          rw [ho.out] at i6
          unfold Hid at hAA
          rw [ho.out] at hAA
          have hAA := hid hAA
          clear hb' he'
          cases o with
          | none =>
            simp only [foV] at i6
            go_enter Tryd.func49, Tryd.ntmps49
            go_wp2_with (first
              | (go_at_call 66; refine (i1 _).mono ?_; rintro r w' ⟨rfl, rfl⟩)
              | (go_at_call 67; refine i2.mono ?_; rintro r w' ⟨rfl, rfl⟩)
              | (go_at_call 68; refine (i3 _).mono ?_; rintro r w2 ⟨rfl, hw2⟩; have S2 := hid (S0.out.below hw2); have B2 := hid (B0.out.trans (hw2.mono B0.out.size)); clear hw2))
            have x0 := And.intro S2.out.c0 S2.out.c1
            go_region_held3 (fun w' => w'.cell? ⟨w.heap.size, 0, none⟩ = some (.int .i64 b) ∧ w'.cell? ⟨w.heap.size, 1, none⟩ = some (.int .i64 e)) (first | exact x5 | exact x4 | exact x3 | exact x0) (first
              | (go_at_call 71; refine (i4 _ B2.out.drew).mono ?_; rintro r w3 ⟨v3, rfl, G3⟩; have b3 := drewBelow8 G3.below; have B3 := hid (B2.out.trans (b3.mono B2.out.size)); have S3 := hid (S2.out.below b3); have x3 := And.intro S3.out.c0 S3.out.c1; have i5' := i5 _ _ G3.own; obtain ⟨a3, m3, k3, rfl⟩ := ownM_sl G3.own; clear G3 b3)
              | (go_at_call 70; refine i5'.mono ?_; rintro r w4 ⟨v4, rfl, G4⟩; have b4 := G4.below; have B4 := hid (B3.out.trans (b4.mono B3.out.size)); have S4 := hid (S3.out.below b4); have x4 := And.intro S4.out.c0 S4.out.c1; have i6' := i6 _ _ G4.own B4.out; obtain ⟨a4, m4, k4, rfl⟩ := ownM_sl G4.own; clear G4 b4)
              | (go_at_call 69; refine i6'.mono ?_; rintro r w5 ⟨rfl, b5⟩; have B5 := hid (B4.out.trans (b5.mono B4.out.size)); have S5 := hid (S4.out.below b5); have x5 := And.intro S5.out.c0 S5.out.c1; clear b5))
            go_wp2
            go_ret2
            exact ⟨by rw [hAA.out]; rfl, B5.out⟩
          | some s =>
            simp only [foV] at i6
            go_enter Tryd.func49, Tryd.ntmps49
            go_wp2_with (first
              | (go_at_call 66; refine (i1 _).mono ?_; rintro r w' ⟨rfl, rfl⟩)
              | (go_at_call 67; refine i2.mono ?_; rintro r w' ⟨rfl, rfl⟩)
              | (go_at_call 68; refine (i3 _).mono ?_; rintro r w2 ⟨rfl, hw2⟩; have S2 := hid (S0.out.below hw2); have B2 := hid (B0.out.trans (hw2.mono B0.out.size)); clear hw2))
            have x0 := And.intro S2.out.c0 S2.out.c1
            go_region_held3 (fun w' => w'.cell? ⟨w.heap.size, 0, none⟩ = some (.int .i64 b) ∧ w'.cell? ⟨w.heap.size, 1, none⟩ = some (.int .i64 e)) (first | exact x5 | exact x4 | exact x3 | exact x0) (first
              | (go_at_call 71; refine (i4 _ B2.out.drew).mono ?_; rintro r w3 ⟨v3, rfl, G3⟩; have b3 := drewBelow8 G3.below; have B3 := hid (B2.out.trans (b3.mono B2.out.size)); have S3 := hid (S2.out.below b3); have x3 := And.intro S3.out.c0 S3.out.c1; have i5' := i5 _ _ G3.own; obtain ⟨a3, m3, k3, rfl⟩ := ownM_sl G3.own; clear G3 b3)
              | (go_at_call 70; refine i5'.mono ?_; rintro r w4 ⟨v4, rfl, G4⟩; have b4 := G4.below; have B4 := hid (B3.out.trans (b4.mono B3.out.size)); have S4 := hid (S3.out.below b4); have x4 := And.intro S4.out.c0 S4.out.c1; have i6' := i6 _ _ G4.own B4.out; obtain ⟨a4, m4, k4, rfl⟩ := ownM_sl G4.own; clear G4 b4)
              | (go_at_call 69; refine i6'.mono ?_; rintro r w5 ⟨rfl, b5⟩; have B5 := hid (B4.out.trans (b5.mono B4.out.size)); have S5 := hid (S4.out.below b5); have x5 := And.intro S5.out.c0 S5.out.c1; clear b5))
            go_wp2
            go_ret2
            exact ⟨by rw [hAA.out]; rfl, B5.out⟩
        · have h4 : insB n b e = false := by simpa using h4
          rw [h4] at i3
          have hAA : Hid (A = (⟨#[]⟩, 80)) := by
            unfold Hid
            rw [← hA.out]
            unfold foldA
            rw [if_pos h1, if_pos h2, if_pos h3, if_neg (by rw [h4]; simp)]
          rw [← h2.1] at i2 ⊢
          have q0 : ¬ (4096 : Int) < (K.length : Int) := by omega
          generalize K.length = m at *
          clear hK hH hH0 T h2 h3 h4 h1 hA
          go_enter Tryd.func49, Tryd.ntmps49
          go_wp2_with (first
            | (go_at_call 66; refine (i1 _).mono ?_; rintro r w' ⟨rfl, rfl⟩)
            | (go_at_call 67; refine i2.mono ?_; rintro r w' ⟨rfl, rfl⟩)
            | (go_at_call 68; refine (i3 _).mono ?_; rintro r w2 ⟨rfl, hw2⟩; have B2 := hid (B0.out.trans (hw2.mono B0.out.size)); clear hw2))
          go_ret2
          exact ⟨by rw [hAA.out]; rfl, B2.out⟩
      · have h3 : hsB8 H = false := by simpa using h3
        have i2 := areHashes8_is H false h3 ah ch _ hhl hH0
        have hAA : Hid (A = (⟨#[]⟩, 1)) := by
          unfold Hid
          rw [← hA.out]
          unfold foldA
          rw [if_pos h1, if_pos h2, if_neg (by rw [h3]; simp)]
        rw [← h2.1] at i2 ⊢
        have q0 : ¬ (4096 : Int) < (K.length : Int) := by omega
        generalize K.length = m at *
        clear hK hH hH0 T h2 h3 h1 hA
        go_enter Tryd.func49, Tryd.ntmps49
        go_wp2_with (first
          | (go_at_call 66; refine (i1 _).mono ?_; rintro r w' ⟨rfl, rfl⟩)
          | (go_at_call 67; refine i2.mono ?_; rintro r w' ⟨rfl, rfl⟩))
        go_ret2
        exact ⟨by rw [hAA.out]; rfl, B0.out⟩
    · have hAA : Hid (A = (⟨#[]⟩, 83)) := by
        unfold Hid
        rw [← hA.out]
        unfold foldA
        rw [if_pos h1, if_neg h2]
      clear hK hH T h1 hA
      generalize K.length = m at *
      generalize H.length = k at *
      by_cases h5 : m = k
      · subst h5
        have q0 : (4096 : Int) < (m : Int) := by omega
        clear h2
        go_enter Tryd.func49, Tryd.ntmps49
        go_wp2_with (go_at_call 66; refine (i1 _).mono ?_; rintro r w' ⟨rfl, rfl⟩)
        go_ret2
        exact ⟨by rw [hAA.out]; rfl, B0.out⟩
      · have q0 : ((m : Int) != (k : Int)) = true := by simp; omega
        have q1 : ((m : Int) == (k : Int)) = false := by simp; omega
        clear h2
        go_enter Tryd.func49, Tryd.ntmps49
        go_wp2_with (go_at_call 66; refine (i1 _).mono ?_; rintro r w' ⟨rfl, rfl⟩)
        go_ret2
        exact ⟨by rw [hAA.out]; rfl, B0.out⟩
  · have i1 := fun w' => isSize_is n false (by simpa using h1) w'
    have hAA : Hid (A = (⟨#[]⟩, 81)) := by
      unfold Hid
      rw [← hA.out]
      unfold foldA
      rw [if_neg h1]
    clear hK hH T h1 hA
    generalize K.length = m at *
    generalize H.length = k at *
    go_enter Tryd.func49, Tryd.ntmps49
    go_wp2_with (go_at_call 66; refine (i1 _).mono ?_; rintro r w' ⟨rfl, rfl⟩)
    go_ret2
    exact ⟨by rw [hAA.out]; rfl, B0.out⟩
end Go.Proofs.YtappjeepajjioaaDoor

namespace Go.Proofs.YtappjeepajjioaaDoor
open Go.RowKit Go.Shelf
set_option maxRecDepth 100000 in
set_option maxHeartbeats 4000000 in
theorem spans_yes (l : List (Int × Int)) (a1 a2 : Option Addr) (c1 c2 : Nat) (w : World) (hl : l.length ≤ 9223372036854775800) (h1 : AtP w a1 l) (h2 : AtP w a2 l) :
    Calls Tryd.prog 12 #[.slice a1 l.length c1, .slice a2 l.length c2] w fun r w' => r = .returned (.bool true) ∧ Below w.heap.size w w' := by
  obtain ⟨n, hn⟩ : ∃ n, Hid (l.length = n) := ⟨_, rfl⟩
  rw [hn.out] at hl ⊢
  have H1 := hid h1
  have H2 := hid h2
  clear h1 h2
  go_enter Tryd.func12, Tryd.ntmps12
  go_wp2
  go_loopw [5] (fun i wr => ∃ k : Nat, i = .int .i64 (k : Int) ∧ k ≤ n ∧ Hid (Below w.heap.size w wr)) (fun i _ => n - (intOf i).toNat)
  case atStart => exact ⟨0, rfl, Nat.zero_le _, Below.refl _ _⟩
  case round =>
    obtain ⟨k, rfl, hk, hB⟩ := hrel
    by_cases hkn : k < n
    · have b0 : (k : Int) < (n : Int) := by omega
      have b1 : (0 : Int) ≤ (k : Int) := by omega
      obtain ⟨x, y, hq⟩ : ∃ x y, l[k]? = some (x, y) := ⟨_, _, List.getElem?_eq_getElem (by have := hn.out; omega)⟩
      obtain ⟨g1, rfl, _, p0, p1⟩ := (H1.out.below hB.out (Nat.le_refl _)) k (x, y) hq
      obtain ⟨g2, rfl, _, q0, q1⟩ := (H2.out.below hB.out (Nat.le_refl _)) k (x, y) hq
      have p0 : wr.cell? ⟨g1, k * 2, none⟩ = some (.int .i64 x) := p0
      have p1 : wr.cell? ⟨g1, k * 2 + 1, none⟩ = some (.int .i64 y) := p1
      have q0 : wr.cell? ⟨g2, k * 2, none⟩ = some (.int .i64 x) := q0
      have q1 : wr.cell? ⟨g2, k * 2 + 1, none⟩ = some (.int .i64 y) := q1
      clear H1 H2 hq
      go_wp2
      go_quiet (fail)
      go_wp2
      exact ⟨⟨k + 1, by go_num, by omega, by first | exact hB | exact hid hB.out.drew | exact hid (below_drewN hB.out _)⟩, by simp [intOf]; omega⟩
    · obtain rfl : k = n := by omega
      have b0 : ¬ (k : Int) < (k : Int) := by omega
      go_wp2
      go_ret
      exact ⟨rfl, hB.out⟩
theorem AtP.lit (w : World) (l : List (Int × Int)) (t : TypeId) : AtP (w.alloc (.cells (prI l).toArray t)) (some ⟨w.heap.size, 0, none⟩) l := fun j q hq => by
  have h := prI_get hq
  refine ⟨w.heap.size, rfl, by rw [size_alloc]; omega, ?_, ?_⟩
  · rw [cell_of_row _ _ _ _ _ _ (heap_alloc_new w _)]; simpa using h.1
  · rw [cell_of_row _ _ _ _ _ _ (heap_alloc_new w _)]; simpa using h.2
theorem AtI.lit (w : World) (l : List Int) (t : TypeId) : AtI (w.alloc (.cells (l.map (Value.int .i64)).toArray t)) (some ⟨w.heap.size, 0, none⟩) l := fun j q hq => by
  refine ⟨⟨w.heap.size, 0, none⟩, rfl, by show w.heap.size < _; rw [size_alloc]; omega, ?_⟩
  rw [Addr.add_mid, cell_of_row _ _ _ _ _ _ (heap_alloc_new w _), Nat.zero_add]
  simp [hq]
set_option maxRecDepth 100000 in
theorem hash8_any (s : ByteArray) (hs : s.size ≤ 140737488355000) (w : World) : Calls Tryd.prog 13 #[.string s] w fun r w' => r = .returned (sv (Sha.sha s.data.toList)) ∧ Below w.heap.size w w' := by
  have i1 := fun w' => rsum_any s (by omega) w'
  obtain ⟨D, hD⟩ : ∃ D : ByteArray, Hid (sv (Sha.sha s.data.toList) = .string D) := ⟨_, rfl⟩
  rw [hD.out] at i1 ⊢
  go_enter Tryd.func13, Tryd.ntmps13
  go_wp2_with (go_at_call 28; refine (i1 _).mono ?_; rintro e w' ⟨rfl, hw⟩)
  go_ret
  exact ⟨rfl, hw⟩
end Go.Proofs.YtappjeepajjioaaDoor

namespace Go.Proofs.YtappjeepajjioaaDoor
open Go.RowKit
theorem svs_one' {L : List (List UInt8)} {v : Value} (h : v ∈ svs L) : v.oneCell' = true := by
  simp only [svs, List.mem_map] at h
  obtain ⟨n, _, rfl⟩ := h
  rfl
/-- a row of texts -/
def Row (w : World) (H : Nat) (L : List (List UInt8)) : Prop := w.heap[H]? = some (.cells (svs L).toArray 9 (0, 0))
theorem Row.lt {w : World} {H : Nat} {L : List (List UInt8)} (h : Row w H L) : H < w.heap.size := lt_of_heap h
theorem Row.cell {w : World} {H : Nat} {L : List (List UInt8)} (h : Row w H L) {j : Nat} {p : List UInt8} (hp : L[j]? = some p) : w.cell? ⟨H, j, none⟩ = some (sv p) := by
  rw [cell_of_row _ _ _ _ _ _ h]; simp [svs, hp]
theorem Row.at {w : World} {H : Nat} {L : List (List UInt8)} (h : Row w H L) : At w (some ⟨H, 0, none⟩) L := fun j p hp => ⟨_, rfl, h.lt, by rw [Addr.add_mid, Nat.zero_add]; exact h.cell hp⟩
theorem Row.free {w : World} {H : Nat} {L : List (List UInt8)} (h : Row w H L) {j : Nat} (hj : j < L.length) : w.frozen? ⟨H, j, none⟩ = false := by
  have := (there_of_row h 0 L.length (by simp [svs])) j hj
  rw [Nat.zero_add] at this
  exact this.2
theorem Row.below {w w' : World} {H B : Nat} {L : List (List UInt8)} (h : Row w H L) (hb : Below B w w') (hB : H < B) : Row w' H L := by
  unfold Row; rw [hb.block H hB]; exact h
theorem Row.heap {w w' : World} {H : Nat} {L : List (List UInt8)} (h : Row w H L) (e : w'.heap = w.heap) : Row w' H L := by
  unfold Row; rw [e]; exact h
theorem Row.set {w : World} {H : Nat} {L : List (List UInt8)} (h : Row w H L) (k : Nat) (x : List UInt8) : Row (w.setCell ⟨H, k, none⟩ (sv x)) H (L.set k x) := by
  have e := setCell_eq_setRow w H k (svs L).toArray 9 (0, 0) (sv x) h
  unfold Row
  rw [e, setRow_heap _ _ _ _ _ _ h]
  refine congrArg (fun A => some (Obj.cells A 9 (0, 0))) ?_
  simp [svs, List.map_set]
theorem infoS1 : (Tryd.prog.info? 9).map (·.size) = some 1 := by kernel_rfl
/-- make([]string, c) -/
theorem make_texts (w : World) (c : Nat) (hc : c ≤ 8796093021960) :
    (Instr.makeSlice 40 (.int .i64 (c : Int)) (.int .i64 (c : Int))).run Tryd.prog w = .ok (.slice (some ⟨w.heap.size, 0, none⟩) c c) (w.alloc (.cells (svs (List.replicate c [])).toArray 9)) := by
  obtain ⟨i0, hi, hz0, hz1, hz2⟩ := info_parts infoS
  have h := run_make (P := Tryd.prog) w 40 9 i0 (.string ⟨#[]⟩) Tryd.underlying40 hi hz0 .i64 .i64 (c : Int) (c : Int) (by omega) (by omega) (by rw [hz2]; omega) (by omega)
  rw [Int.toNat_natCast, hz1, Nat.mul_one] at h
  have e : madeCells (Value.string ⟨#[]⟩).cells c = (svs (List.replicate c [])).toArray := by
    apply Array.ext'
    rw [show (madeCells (Value.string ⟨#[]⟩).cells c).toList = List.replicate c (.string ⟨#[]⟩) from toList_madeCells_one _ _]
    simp [svs]; exact .inr rfl
  rw [e] at h
  exact h
/-- copy(own, l) -/
theorem copy_texts (w : World) (H : Nat) (a : Option Addr) (cap' : Nat) (ps rest : List (List UInt8)) (hs : At w a ps) (hR : Row w H (List.replicate ps.length [] ++ rest)) (m cap : Nat) (hm : m = ps.length + rest.length) :
    ∃ w', (Builtin.copy_ #[40, 40] 3 #[.slice (some ⟨H, 0, none⟩) m cap, .slice a ps.length cap']).run Tryd.prog w = .ok (goInt ps.length) w' ∧ Row w' H (ps ++ rest) ∧ But H w w' := by
  by_cases h0 : ps.length = 0
  · obtain rfl : ps = [] := List.length_eq_zero_iff.1 h0
    exact ⟨w, run_copy_none (P := Tryd.prog) w _ _ _ 9 _ _ _ _ _ _ Tryd.underlying40 infoS1 (by simp), by simpa using hR, But.refl _ _⟩
  · obtain ⟨x, rfl, hx, _⟩ := hs 0 _ (List.getElem?_eq_getElem (by omega))
    have h := run_copy_row (P := Tryd.prog) w 40 40 3 9 H 0 m cap x ps.length cap' _ 9 (svs ps) Tryd.underlying40 infoS1 hR
      (by rw [svs_length]; exact (Nat.min_eq_left (by omega)).symm) (fun j u hu => by
        simp only [svs, List.getElem?_map, Option.map_eq_some_iff] at hu
        obtain ⟨p, hp, rfl⟩ := hu
        obtain ⟨y, hy, _, hc⟩ := hs j p hp
        cases hy
        exact hc) (by simp [svs]) (fun u hu => svs_one' hu)
    refine ⟨_, h.trans (by rw [svs_length]), ?_, (But.refl _ _).setRow _⟩
    unfold Row
    rw [setRow_heap _ _ _ _ _ _ hR]
    refine congrArg (fun A => some (Obj.cells A 9 (0, 0))) ?_
    simp [svs]
end Go.Proofs.YtappjeepajjioaaDoor

namespace Go.Proofs.YtappjeepajjioaaDoor
open Go.RowKit Go.Shelf
/-- what such a call answers, as one looks at it -/
def Ans (n : Nat) (l : List (Int × Int)) (w : World) (r : Ending) (w' : World) : Prop := ∃ a k, r = .returned (.tuple #[.slice a n k, .int .i64 0]) ∧ AtP w' a l ∧ Below w.heap.size w w'
theorem SpP.ans {w w' : World} {c : Int} {L : List (Nat × Nat)} {r : Ending} {n : Nat} {l : List (Int × Int)} (h : SpP w c L r w') (hc : c = 0) (hL : L.length = n) (hl : L.map (fun s => ((s.1 : Int), (s.2 : Int))) = l) : Ans n l w r w' := by
  subst hc hL hl
  obtain ⟨hb, v, rfl, ho, _⟩ := h
  obtain ⟨a, k, rfl, _, _⟩ := ho.shape
  exact ⟨a, k, rfl, OwnP.atP ho, hb⟩
theorem e_cover : coverE 1 7 = 0 ∧ coverL 1 7 = [(0, 1), (1, 1), (1, 2), (0, 6)] := by decide +kernel
theorem e_path : pathE 5 0 = 0 ∧ pathL 5 0 = [(1, 2), (2, 4), (4, 5)] := by decide +kernel
theorem e_proof : proofE 3 5 = 0 ∧ proofL 3 5 = [(2, 3), (3, 4), (0, 2), (4, 5)] := by decide +kernel
theorem e_batch : batchE 5 [0, 3] = 0 ∧ batchL 5 [0, 3] = [(1, 2), (2, 3), (4, 5)] := by decide +kernel
theorem e_run : runE 5 1 4 = 0 ∧ runL 5 1 4 = [(0, 1), (4, 5)] := by decide +kernel
theorem e_ins : insB 5 0 4 = true ∧ insB 5 0 5 = true := by decide +kernel
theorem e_sp5 : Tree.sp 5 = 4 := by decide +kernel
theorem e_fo (x y : ByteArray) : foS 5 0 5 (witS 0 5 (prd [(0, 4), (4, 5)] [x, y])) = some ⟨(Tree.nd x.data.toList y.data.toList).toArray⟩ := by
  have e1 : witS 0 5 (prd [(0, 4), (4, 5)] [x, y]) = [((0, 4), x), ((4, 5), y)] := by simp [witS, prd, hasI]
  have e2 : witS ((0 : Nat) : Int) ((0 + 4 : Nat) : Int) [((0, 4), x), ((4, 5), y)] = [((0, 4), x)] := by simp [witS, hasI]
  have e3 : witS ((0 + 4 : Nat) : Int) ((0 + 5 : Nat) : Int) [((0, 4), x), ((4, 5), y)] = [((4, 5), y)] := by simp [witS, hasI]
  have e4 : foS 4 0 4 [((0, 4), x)] = some x := by simp [foS]
  have e5 : foS 4 (0 + 4) (5 - 4) [((4, 5), y)] = some y := by simp [foS]
  have e6 : ([((0, 4), x), ((4, 5), y)] : List Sub).find? (fun q => decide (q.1 = (((0 : Nat) : Int), ((0 + 5 : Nat) : Int)))) = none := by simp
  rw [e1, foS, e6]
  simp only []
  rw [if_neg (by omega), e_sp5, e2, e3, if_neg (by simp), e4, e5]
theorem e_fold (x y : List UInt8) (hx : x.length = 32) (hy : y.length = 32) : foldA 5 [(0, 4), (4, 5)] [x, y] 0 5 = (⟨(Tree.nd x y).toArray⟩, 0) := by
  unfold foldA
  rw [if_pos (by omega), if_pos (by simp), if_pos (by simp [hsB8, hx, hy]), if_pos e_ins.2]
  have := e_fo ⟨x.toArray⟩ ⟨y.toArray⟩
  rw [show (5 : Int).toNat - (0 : Int).toNat = 5 from rfl, show (0 : Int).toNat = 0 from rfl, show bas [x, y] = [⟨x.toArray⟩, ⟨y.toArray⟩] from rfl, this]
end Go.Proofs.YtappjeepajjioaaDoor


namespace Go.Proofs.YtappjeepajjioaaDoor
open Go.RowKit Go.Shelf
namespace Tree
/-- two subtrees: one is within the other, or they share no leaf -/
theorem insF_lam : ∀ (f b n x y x' y' : Nat), 1 ≤ n → insF f b n x y = true → insF f b n x' y' = true → y ≤ x' ∨ y' ≤ x ∨ (x ≤ x' ∧ y' ≤ y) ∨ (x' ≤ x ∧ y ≤ y')
  | 0, _, _, _, _, _, _, _, h, _ => by cases h
  | f + 1, b, n, x, y, x', y', h1, h, h' => by
    have i1 := insF_in _ _ _ _ _ h h1
    have i2 := insF_in _ _ _ _ _ h' h1
    rw [insF] at h h'
    split at h
    · omega
    · split at h'
      · omega
      · split at h
        · cases h
        · rename_i h2
          rw [if_neg h2] at h'
          have s1 := sp_lt (n := n) (by omega)
          have s2 := sp_pos (n := n) (by omega)
          split at h
          · split at h'
            · exact insF_lam f b (sp n) x y x' y' (by omega) h h'
            · split at h'
              · omega
              · cases h'
          · split at h
            · split at h'
              · omega
              · split at h'
                · exact insF_lam f (b + sp n) (n - sp n) x y x' y' (by omega) h h'
                · cases h'
            · cases h
end Tree
set_option maxRecDepth 100000 in
set_option maxHeartbeats 2000000 in
theorem rMiddle_at (b e m : Nat) (h2 : 2 ≤ e - b) (he : e ≤ 1099511627776) (hm : Hid (m = b + Tree.sp (e - b))) (w : World) :
    Calls Tryd.prog 56 #[sg b e] w fun r w' => r = .returned (.int .i64 (m : Int)) ∧ Below w.heap.size w w' := by
  obtain ⟨n, hn⟩ : ∃ n, Hid (e - b = n) := ⟨_, rfl⟩
  have S0 := SpI.new w b e
  have B0 := (Below.refl _ w).alloc (Nat.le_refl _) (.cells #[.int .i64 (b : Int), .int .i64 (e : Int)] 45)
  have c0 := S0.c0
  have c1 := S0.c1
  have hn2 : 2 ≤ n := by rw [← hn.out]; exact h2
  have hn3 : n ≤ 1099511627776 := by have := hn.out; omega
  have q0 : (e : Int) - (b : Int) = (n : Int) := by have := hn.out; omega
  have q1 : IntKind.i64.wrap ((e : Int) - (b : Int)) = (n : Int) := by rw [IntKind.wrap_i64]; omega
  rw [hn.out] at hm
  go_enter Tryd.func56, Tryd.ntmps56
  go_wp2
  clear q0 q1
  go_loopw [4] (fun k w' => ∃ a x : Nat, Hid (2 ^ a = x) ∧ k = .int .i64 (x : Int) ∧ x < n ∧ 0 < x ∧ w' = w.alloc (.cells #[.int .i64 (b : Int), .int .i64 (e : Int)] 45)) (fun k _ => n - (intOf k).toNat)
  case atStart => exact ⟨0, 1, rfl, rfl, by omega, by omega, rfl⟩
  case round =>
    obtain ⟨a, x, hx, rfl, hlt, hpos, rfl⟩ := hrel
    by_cases hk : 2 * (x : Int) < n
    · go_wp2
      exact ⟨⟨a + 1, 2 * x, by rw [Hid, Nat.pow_succ, hx.out, Nat.mul_comm], by go_num, by omega, by omega, trivial⟩, by simp [intOf]; omega⟩
    · have em := hid (show Tree.sp n = x by rw [Tree.sp_one hn2 a (by rw [hx.out]; omega) (by rw [hx.out]; omega), hx.out])
      have q2 : IntKind.i64.wrap ((b : Int) + (x : Int)) = (m : Int) := by rw [hm.out, em.out, IntKind.wrap_i64]; have := hn.out; omega
      go_wp2
      go_ret
      exact ⟨rfl, B0⟩
end Go.Proofs.YtappjeepajjioaaDoor

namespace Go.Proofs.YtappjeepajjioaaDoor
open Go.RowKit Go.Shelf
theorem SpI.set0 {w : World} {g : Nat} {b e : Int} (h : SpI w g b e) (b' : Int) : SpI (w.setCell ⟨g, 0, none⟩ (.int .i64 b')) g b' e := heap_setCell_same w g 0 _ _ _ h
theorem SpI.set1 {w : World} {g : Nat} {b e : Int} (h : SpI w g b e) (e' : Int) : SpI (w.setCell ⟨g, 1, none⟩ (.int .i64 e')) g b e' := heap_setCell_same w g 1 _ _ _ h
/-- a subtree of [0, n), as values -/
def BelP (n : Nat) (w : World) (r : Ending) (w' : World) : Prop := ∃ b e : Nat, r = .returned (sg b e) ∧ Tree.insF n 0 n b e = true ∧ Below w.heap.size w w'
end Go.Proofs.YtappjeepajjioaaDoor

namespace Go.Proofs.YtappjeepajjioaaDoor
open Go.RowKit Go.Shelf
theorem insB_of {n b e : Nat} (hn : 1 ≤ n) (hn2 : n ≤ 1099511627776) (h : Tree.insF n 0 n b e = true) : insB n b e = true := by
  have := Tree.insF_in _ _ _ _ _ h hn
  unfold insB
  rw [Int.toNat_natCast, Int.toNat_natCast, Int.toNat_natCast, h, decide_eq_true (by omega)]; rfl
end Go.Proofs.YtappjeepajjioaaDoor

namespace Go.Proofs.YtappjeepajjioaaDoor
open Go.RowKit
/-- V1 -/
def lenOf (n m : Int) : Int × Int := if n < 1 ∨ 1099511627776 < n then (0, 41) else if m < 0 ∨ n ≤ m then (0, 40) else ((Tree.D n.toNat m.toNat).length, 0)
/-- V1 -/
def prfLen (m n : Int) : Int × Int := if m < 1 ∨ n < m ∨ 1099511627776 < n then (0, 41) else (Tree.pl m.toNat n.toNat true, 0)
end Go.Proofs.YtappjeepajjioaaDoor

namespace Go.Proofs.YtappjeepajjioaaDoor
open Go.RowKit Go.Shelf
theorem infoI8 : (Tryd.prog.info? 3).map (fun i => (i.zero, i.size, i.bytes)) = some (some (.int .i64 0), 1, 8) := by kernel_rfl
def iv8 (L : List Int) : List Value := L.map (.int .i64)
theorem iv8_length (L : List Int) : (iv8 L).length = L.length := by simp [iv8]
/-- append(l, i) -/
theorem append_int8 (w : World) (base : Nat) (v : Value) (L : List Int) (p : Int) (hown : Own w base v (iv8 L)) (hlen : L.length ≤ 2000000) (hbase : base ≤ w.heap.size) :
    ∃ v' w', (Builtin.append_ #[22, 22] 22 #[v, .slice (some ⟨w.heap.size, 0, none⟩) 1 1]).run Tryd.prog (w.alloc (.cells #[.int .i64 p] 3)) = .ok v' w' ∧ Own w' base v' (iv8 (L ++ [p])) ∧ Below base w w' := by
  obtain ⟨i0, hi, hz0, hz1, hz2⟩ := info_parts infoI8
  have hsrc : Src Tryd.prog 1 22 (.slice (some ⟨w.heap.size, 0, none⟩) 1 1) 1 [.int .i64 p] (w.alloc (.cells #[.int .i64 p] 3)) :=
    Src.ofSlice _ Tryd.underlying22 ⟨w.heap.size, 0, none⟩ 1 1 [.int .i64 p] (by simp) (fun j u hj => by
      rw [Addr.add_mid, cell_of_row _ _ _ _ _ _ (heap_alloc_new w _), Nat.zero_add]; simpa using hj) (fun u hu => by simp at hu; subst hu; rfl)
  obtain ⟨v', w', h1, h2, h3, h4⟩ := run_append_O (P := Tryd.prog) (w.alloc (.cells #[.int .i64 p] 3)) base 22 22 22 3 i0 (.int .i64 0) Tryd.underlying22 hi hz0 hz1 rfl v (iv8 L) (hown.alloc _) _ 1 [.int .i64 p] hsrc
    (by rw [iv8_length, hz2]; omega) (by rw [iv8_length, maxLen]; omega) (by rw [size_alloc]; omega) (fun _ => by omega)
  refine ⟨v', w', h1, by simpa [iv8] using h2, ?_⟩
  exact ((Below.refl base w).alloc hbase _).trans (Below.ofGrown h3 hown.ge (by rw [size_alloc]; omega))
theorem Own.atI8 {w : World} {base : Nat} {v : Value} {L : List Int} (h : Own w base v (iv8 L)) : ∃ a cap, v = .slice a L.length cap ∧ AtI w a L ∧ L.length ≤ cap ∧ cap ≤ 9223372036854775807 := by
  rcases h with ⟨rfl, h⟩ | ⟨g, cap, rfl, h1, h2, h3, h4, h5, h6⟩
  · obtain rfl : L = [] := by simpa [iv8] using h
    exact ⟨none, 0, rfl, AtI.nil _ _, by simp, by omega⟩
  · rw [iv8_length] at h2
    refine ⟨some ⟨g, 0, none⟩, cap, by rw [iv8_length], fun j p hp => ⟨_, rfl, h6, ?_⟩, h2, h3⟩
    rw [Addr.add_mid]
    exact h4 j (.int .i64 p) (by simp [iv8, hp])
/-- numbers that rise, all of them below A -/
structure Rsn (L : List Int) (A : Nat) : Prop where
  so : L.Pairwise (· < ·)
  all : ∀ x ∈ L, 0 ≤ x ∧ x < (A : Int)
theorem Rsn.nil (A : Nat) : Rsn [] A := ⟨List.Pairwise.nil, fun x h => by cases h⟩
theorem Rsn.push {L : List Int} {A : Nat} (h : Rsn L A) (q : Nat) : Rsn (L ++ [((A + q : Nat) : Int)]) (A + q + 1) :=
  ⟨List.pairwise_append.2 ⟨h.so, List.pairwise_singleton _ _, fun a ha b hb => by
    obtain rfl := List.mem_singleton.1 hb
    have := (h.all a ha).2
    omega⟩, fun x hx => by
    rcases List.mem_append.1 hx with hx | hx
    · have := h.all x hx
      omega
    · obtain rfl := List.mem_singleton.1 hx
      omega⟩
theorem Rsn.ok {L : List Int} {A n : Nat} (h : Rsn L A) (hA : A ≤ n) (h1 : 1 ≤ n) (h2 : n ≤ 1099511627776) (l1 : 0 < L.length) (l2 : L.length ≤ 256) : BatOk n L := by
  have a0 := h.all L[0] (List.getElem_mem _)
  have a1 := h.all (L[L.length - 1]'(by omega)) (List.getElem_mem _)
  exact ⟨by omega, by omega, l1, l2, h.so, by rw [getD_at l1]; omega, by rw [getD_at l1]; omega, by rw [getD_at (by omega)]; omega, by rw [getD_at (by omega)]; omega⟩
/-- rising's answer -/
def RisP (n : Nat) (w : World) (r : Ending) (w' : World) : Prop := ∃ (a : Option Addr) (cap : Nat) (L : List Int), r = .returned (.slice a L.length cap) ∧ AtI w' a L ∧ BatOk n L ∧ Below w.heap.size w w'
end Go.Proofs.YtappjeepajjioaaDoor

/- THE PLAIN MATHEMATICS OF LAYER 8: spans that lie apart, walked from the left; nothing of the program. -/
namespace Go.Proofs.YtappjeepajjioaaDoor
namespace Tree
/-- where the next span begins -/
def tgt (n : Nat) : List (Nat × Nat) → Nat
  | [] => n
  | s :: _ => s.1
/-- r's first K numbers lie below A, the others don't; from A on to T all are r's, T is not -/
structure Pos (r : List Nat) (A K T : Nat) : Prop where
  le : A ≤ T
  kl : K ≤ r.length
  lo : ∀ j x, r[j]? = some x → j < K → x < A
  hi : ∀ j x, r[j]? = some x → K ≤ j → A ≤ x
  mid : ∀ i, A ≤ i → i < T → i ∈ r
  no : ¬ T ∈ r
theorem Pos.at {r : List Nat} {A K T : Nat} (h : Pos r A K T) (hs : r.Pairwise (· < ·)) (hA : A < T) : r[K]? = some A ∧ Pos r (A + 1) (K + 1) T := by
  obtain ⟨j, hj⟩ := List.mem_iff_getElem?.1 (h.mid A (Nat.le_refl _) hA)
  have h1 : K ≤ j := by
    rcases Nat.lt_or_ge j K with h1 | h1
    · have := h.lo j A hj h1; omega
    · exact h1
  have hjl : j < r.length := by
    rcases Nat.lt_or_ge j r.length with h2 | h2
    · exact h2
    · rw [List.getElem?_eq_none h2] at hj; cases hj
  have h2 : j = K := by
    rcases Nat.lt_or_ge K j with h2 | h2
    · have e : r[K]? = some (r[K]'(by omega)) := List.getElem?_eq_getElem (by omega)
      have a := h.hi K _ e (Nat.le_refl _)
      have b := List.pairwise_iff_getElem.1 hs K j (by omega) hjl h2
      rw [List.getElem?_eq_getElem hjl] at hj
      have := Option.some.inj hj
      omega
    · omega
  subst h2
  refine ⟨hj, by omega, by omega, fun i x hx hi => ?_, fun i x hx hi => ?_, fun i h1 h2 => h.mid i (by omega) h2, h.no⟩
  · rcases Nat.lt_or_ge i j with h3 | h3
    · have := h.lo i x hx h3; omega
    · obtain rfl : i = j := by omega
      rw [hj] at hx
      have := Option.some.inj hx
      omega
  · have hil : i < r.length := by
      rcases Nat.lt_or_ge i r.length with h2 | h2
      · exact h2
      · rw [List.getElem?_eq_none h2] at hx; cases hx
    have b := List.pairwise_iff_getElem.1 hs j i hjl hil (by omega)
    rw [List.getElem?_eq_getElem hil] at hx
    rw [List.getElem?_eq_getElem hjl] at hj
    have := Option.some.inj hj
    have := Option.some.inj hx
    omega
theorem Pos.done {r : List Nat} {K T : Nat} (h : Pos r T K T) {x : Nat} (hx : r[K]? = some x) : x ≠ T := fun e => h.no (by rw [← e]; exact List.mem_of_getElem? hx)
/-- where the walk stands: what is left of the spans -/
structure Stand (r : List Nat) (n A K : Nat) (rest : List (Nat × Nat)) : Prop where
  kl : K ≤ r.length
  lo : ∀ j x, r[j]? = some x → j < K → x < A
  hi : ∀ j x, r[j]? = some x → K ≤ j → A ≤ x
  ap : Apt A n rest (fun i => decide (i ∈ r))
theorem Stand.pos {r : List Nat} {n A K : Nat} {rest : List (Nat × Nat)} (h : Stand r n A K rest) (hn : ∀ x ∈ r, x < n) : Pos r A K (tgt n rest) := by
  have ap := h.ap
  cases rest with
  | nil => exact ⟨ap.1, h.kl, h.lo, h.hi, fun i h1 h2 => of_decide_eq_true (ap.2 i h1 h2), fun hc => Nat.lt_irrefl _ (hn _ hc)⟩
  | cons s rest =>
    obtain ⟨a1, a2, a3, a4, a5, a6⟩ := ap
    exact ⟨a1, h.kl, h.lo, h.hi, fun i h1 h2 => of_decide_eq_true (a4 i h1 h2), fun hc => by
      have := a5 s.1 (Nat.le_refl _) a2
      have h2 := of_decide_eq_false this
      exact h2 hc⟩
theorem Stand.next {r : List Nat} {n A K A' K' : Nat} {s : Nat × Nat} {rest : List (Nat × Nat)} (h : Stand r n A K (s :: rest)) (p : Pos r A' K' s.1) (he : A' = s.1) : s.1 < s.2 ∧ s.2 ≤ n ∧ Stand r n s.2 K' rest := by
  obtain ⟨a1, a2, a3, a4, a5, a6⟩ := h.ap
  subst he
  refine ⟨a2, a3, p.kl, fun j x hx hj => ?_, fun j x hx hj => ?_, a6⟩
  · have := p.lo j x hx hj; omega
  · have h1 := p.hi j x hx hj
    rcases Nat.lt_or_ge x s.2 with h2 | h2
    · exact absurd (List.mem_of_getElem? hx) (of_decide_eq_false (a5 x h1 h2))
    · exact h2
theorem Stand.last {r : List Nat} {n K' : Nat} (hn : ∀ x ∈ r, x < n) (p : Pos r n K' n) : K' = r.length := by
  rcases Nat.lt_or_ge K' r.length with h | h
  · have e : r[K']? = some r[K'] := List.getElem?_eq_getElem h
    have := p.hi K' _ e (Nat.le_refl _)
    have := hn _ (List.getElem_mem h)
    omega
  · have := p.kl; omega
theorem Stand.start {r : List Nat} {n : Nat} {L : List (Nat × Nat)} (h : Apt 0 n L (fun i => decide (i ∈ r))) : Stand r n 0 0 L := ⟨Nat.zero_le _, fun j x _ h => by omega, fun j x _ _ => Nat.zero_le _, h⟩
/-- a run [x, y) of leaves left out, walked: A is where the walk stands -/
structure Over (x y n A : Nat) (rest : List (Nat × Nat)) : Prop where
  out : A ≤ x ∨ y ≤ A
  le : A ≤ n
  ap : Apt A n rest (fun i => decide (x ≤ i ∧ i < y))
/-- behind the run, where the walk stands at its begin -/
def hop (x y A : Nat) : Nat := if A = x then y else A
theorem Over.next {x y n A : Nat} {s : Nat × Nat} {rest : List (Nat × Nat)} (h : Over x y n A (s :: rest)) (hxy : x < y) : s.1 = hop x y A ∧ s.1 < s.2 ∧ s.2 ≤ n ∧ Over x y n s.2 rest := by
  obtain ⟨a1, a2, a3, a4, a5, a6⟩ := h.ap
  have n1 : ¬ (x ≤ s.1 ∧ s.1 < y) := of_decide_eq_false (a5 s.1 (Nat.le_refl _) a2)
  have ho := h.out
  have e : s.1 = hop x y A := by
    unfold hop
    split
    · rename_i hA
      subst hA
      rcases Nat.lt_or_ge y s.1 with h1 | h1
      · have := of_decide_eq_true (a4 y (by omega) h1); omega
      · omega
    · rename_i hA
      rcases Nat.lt_or_ge A s.1 with h1 | h1
      · have := of_decide_eq_true (a4 A (Nat.le_refl _) h1); omega
      · omega
  refine ⟨e, a2, a3, ?_, a3, a6⟩
  rcases Nat.lt_or_ge s.1 x with h1 | h1
  · rcases Nat.lt_or_ge x s.2 with h2 | h2
    · have : ¬ (x ≤ x ∧ x < y) := of_decide_eq_false (a5 x (by omega) h2)
      omega
    · exact .inl h2
  · exact .inr (by omega)
theorem Over.last {x y n A : Nat} (h : Over x y n A []) (hxy : x < y) (hy : y ≤ n) : hop x y A = n := by
  obtain ⟨a1, a2⟩ := h.ap
  have ho := h.out
  unfold hop
  split
  · rename_i hA
    subst hA
    rcases Nat.lt_or_ge y n with h1 | h1
    · have := of_decide_eq_true (a2 y (by omega) h1); omega
    · omega
  · rename_i hA
    rcases Nat.lt_or_ge A n with h1 | h1
    · have := of_decide_eq_true (a2 A (Nat.le_refl _) h1); omega
    · omega
theorem Over.start {x y n : Nat} {L : List (Nat × Nat)} (h : Apt 0 n L (fun i => decide (x ≤ i ∧ i < y))) : Over x y n 0 L := ⟨.inl (Nat.zero_le _), Nat.zero_le _, h⟩
end Tree
end Go.Proofs.YtappjeepajjioaaDoor

namespace Go.Proofs.YtappjeepajjioaaDoor
open Go.RowKit Go.Shelf
theorem ix_get {r : List Nat} {j x : Nat} (h : r[j]? = some x) : (ix r)[j]? = some (x : Int) := by unfold ix; rw [List.getElem?_map, h]; rfl
theorem pm_get {L : List (Nat × Nat)} {j : Nat} {s : Nat × Nat} (h : L[j]? = some s) : (L.map fun s => ((s.1 : Int), (s.2 : Int)))[j]? = some ((s.1 : Int), (s.2 : Int)) := by rw [List.getElem?_map, h]; rfl
theorem drop_get {L : List (Nat × Nat)} {j : Nat} {s : Nat × Nat} (h : L[j]? = some s) : L.drop j = s :: L.drop (j + 1) := by
  have hj : j < L.length := by
    rcases Nat.lt_or_ge j L.length with h2 | h2
    · exact h2
    · rw [List.getElem?_eq_none h2] at h; cases h
  rw [List.getElem?_eq_getElem hj] at h
  rw [List.drop_eq_getElem_cons hj, Option.some.inj h]
end Go.Proofs.YtappjeepajjioaaDoor

namespace Go.Proofs.YtappjeepajjioaaDoor
open Go.RowKit Go.Shelf
/-- what the document's lengths are, as closed facts of numbers -/
theorem lenOf_nat (N k : Nat) (h1 : k < N) (h2 : N ≤ 1099511627776) : lenOf (N : Int) (k : Int) = (((Tree.D N k).length : Int), 0) := by
  unfold lenOf
  rw [if_neg (by omega), if_neg (by omega), Int.toNat_natCast, Int.toNat_natCast]
theorem prfLen_nat (m N : Nat) (h0 : 1 ≤ m) (h1 : m ≤ N) (h2 : N ≤ 1099511627776) : prfLen (m : Int) (N : Int) = ((Tree.pl m N true : Int), 0) := by
  unfold prfLen
  rw [if_neg (by omega), Int.toNat_natCast, Int.toNat_natCast]
theorem D_le (N k : Nat) (h1 : k < N) (h2 : N ≤ 1099511627776) : (Tree.D N k).length ≤ 40 := by
  rw [Tree.D_U N N k (Nat.le_refl _) h1]
  exact Tree.U_len 40 _ _ (by omega)
theorem wit_whole {is : List Nat} {N : Nat} (h : ∀ i ∈ is, i < N) : Tree.wit is 0 (0 + N) = is := by
  unfold Tree.wit
  refine List.filter_eq_self.2 fun i hi => ?_
  have := h i hi
  exact decide_eq_true (by omega)
/-- a list of spans as the law reads it -/
abbrev pm (L : List (Nat × Nat)) : List (Int × Int) := L.map fun s => ((s.1 : Int), (s.2 : Int))
theorem proof8_ans (m N pl : Nat) (h0 : 1 ≤ m) (h1 : m ≤ N) (h2 : N ≤ 1099511627776) (hd : Hid (Tree.pl m N true = pl)) (w : World) :
    Calls Tryd.prog 46 #[.int .i64 (m : Int), .int .i64 (N : Int)] w (Ans pl (pm (Tree.prfF N 0 N m)) w) := by
  have hE : proofE (m : Int) (N : Int) = 0 := by unfold proofE; rw [if_pos (by omega)]
  have hL : proofL (m : Int) (N : Int) = Tree.prfF N 0 N m := by unfold proofL; rw [if_pos hE, Int.toNat_natCast, Int.toNat_natCast]
  refine (proof8_any (m : Int) (N : Int) w).mono fun r w' h => h.ans hE ?_ (by rw [hL])
  rw [hL, Tree.prfF_len N 0 N m (Nat.le_refl _) (by omega) (by omega), Nat.sub_zero]
  exact hd.out
/-- H6 of a batch: how many spans -/
theorem bat_count {N : Nat} {l : List Int} (h : BatOk (N : Int) l) : (Tree.othF N 0 N (toN l)).length + l.length ≤ N ∧ (Tree.othF N 0 N (toN l)).length ≤ l.length * (Tree.D N 0).length := by
  have hN : 1 ≤ N := by have := h.n1; omega
  have hlt : ∀ i ∈ toN l, i < N := fun i hi => by have := h.lt i hi; rwa [Int.toNat_natCast] at this
  have hw := wit_whole hlt
  have hnd : (toN l).Nodup := h.sorted.imp fun {a b} hab => Nat.ne_of_lt hab
  have c1 := Tree.oth_count (toN l) hnd N 0 N (Nat.le_refl _) hN
  have c2 := Tree.oth_most (toN l) N 0 N (Nat.le_refl _) hN (Tree.tch_mem.2 (by
    have hl : 0 < (toN l).length := by rw [h.len]; exact h.l1
    exact ⟨(toN l)[0], List.getElem_mem hl, Nat.zero_le _, by have := hlt _ (List.getElem_mem hl); omega⟩))
  rw [hw, h.len] at c1 c2
  exact ⟨c1, c2⟩
end Go.Proofs.YtappjeepajjioaaDoor
