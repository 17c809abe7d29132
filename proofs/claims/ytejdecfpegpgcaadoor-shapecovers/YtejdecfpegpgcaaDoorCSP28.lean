import Derived.Test.YtejdecfpegpgcaaDoorCSP24
import Derived.Test.YtejdecfpegpgcaaDoorCK5
import Derived.Test.YtejdecfpegpgcaaDoorCR5
import Derived.Test.YtejdecfpegpgcaaDoorCO7
namespace Go.Proofs.YtejdecfpegpgcaaDoor
open Go.RowKit Go.Shelf
/-- H5 -/
def foldA (n : Int) (K : List (Int × Int)) (H : List (List UInt8)) (b e : Int) : ByteArray × Int :=
  if 1 ≤ n ∧ n ≤ 1099511627776 then
    if K.length = H.length ∧ K.length ≤ 4096 then
      if hsB8 H = true then
        if insB n b e = true then
          match foS (e.toNat - b.toNat) b.toNat (e.toNat - b.toNat) (witS b e (prd K (bas H))) with
          | none => (⟨#[]⟩, 82)
          | some s => (s, 0)
        else (⟨#[]⟩, 80)
      else (⟨#[]⟩, 1)
    else (⟨#[]⟩, 83)
  else (⟨#[]⟩, 81)
theorem insB_facts {n b e : Int} (h : insB n b e = true) : 1 ≤ n ∧ n ≤ 1099511627776 ∧ 0 ≤ b ∧ b < e ∧ e ≤ n := by
  unfold insB at h
  rw [Bool.and_eq_true, decide_eq_true_eq] at h
  obtain ⟨h1, h2⟩ := h
  have := Tree.insF_in _ _ _ _ _ h2 (by omega)
  omega
set_option maxRecDepth 100000 in
set_option maxHeartbeats 8000000 in
theorem foldF_any (n : Int) (K : List (Int × Int)) (H : List (List UInt8)) (b e : Int) (ak ah : Option Addr) (ck ch : Nat) (w : World) (hkl : K.length ≤ 9223372036854775807) (hhl : H.length ≤ 9223372036854775807) (hK : AtP w ak K) (hH : At w ah H) (T : Tabs w) :
    Calls Tryd.prog 38 #[.int .i64 n, .slice ak K.length ck, .slice ah H.length ch, sg b e] w fun r w' => r = .returned (.tuple #[.string (foldA n K H b e).1, .int .i64 (foldA n K H b e).2]) ∧ Below w.heap.size w w' := by
  have S0 := hid (SpI.new w b e)
  have B0 := hid ((Below.refl _ w).alloc (Nat.le_refl _) (.cells #[.int .i64 b, .int .i64 e] 25))
  have c0 := S0.out.c0
  have c1 := S0.out.c1
  obtain ⟨A, hA⟩ : ∃ A, Hid (foldA n K H b e = A) := ⟨_, rfl⟩
  rw [hA.out]
  by_cases h1 : 1 ≤ n ∧ n ≤ 1099511627776
  · have i1 := fun w' => isSize_is n true (by simpa using h1) w'
    by_cases h2 : K.length = H.length ∧ K.length ≤ 4096
    · have hH0 : At (w.alloc (.cells #[.int .i64 b, .int .i64 e] 25)) ah H := hH.below B0.out (Nat.le_refl _)
      by_cases h3 : hsB8 H = true
      · have i2 := areHashes8_is H true h3 ah ch _ hhl hH0
        have i3 := fun w' => inside_any n b e w'
        by_cases h4 : insB n b e = true
        · rw [h4] at i3
          have hf := insB_facts h4
          obtain ⟨b', hb'⟩ := Int.eq_ofNat_of_zero_le hf.2.2.1
          obtain ⟨e', he'⟩ := Int.eq_ofNat_of_zero_le (show 0 ≤ e by omega)
          have i4 := fun w' (hb : Below w.heap.size w w') => paired_any K H ak ah ck ch w' h2.1 h2.2 (hK.below hb (Nat.le_refl _)) (hH.below hb (Nat.le_refl _))
          obtain ⟨P, hP⟩ : ∃ P, Hid (prd K (bas H) = P) := ⟨_, rfl⟩
          have lP : Hid (P.length ≤ 4096) := by unfold Hid; rw [← hP.out, prd_len K (bas H) (by unfold bas; rw [List.length_map]; exact h2.1)]; exact h2.2
          rw [hP.out] at i4
          have i5 := fun v w' (ho : OwnS3 w' v P) => within_any b e P v w' ho (by have := lP.out; omega)
          obtain ⟨R, hR⟩ : ∃ R, Hid (witS b e P = R) := ⟨_, rfl⟩
          have lR : Hid (R.length ≤ 4096) := by unfold Hid; rw [← hR.out]; exact Nat.le_trans (witS_len b e P) lP.out
          rw [hR.out] at i5
          have i6 := fun v w' (ho : OwnS3 w' v R) (hb : Below w.heap.size w w') => fold8_any (e' - b') b' (e' - b') R v w' (Nat.le_refl _) (by omega) (by omega) ho lR.out (T.below hb T.lt)
          rw [show b' + (e' - b') = e' by omega, ← hb', ← he'] at i6
          have hAA : Hid (A = match foS (e' - b') b' (e' - b') R with
              | none => (⟨#[]⟩, 82)
              | some s => (s, 0)) := by
            unfold Hid
            rw [← hA.out]
            unfold foldA
            rw [if_pos h1, if_pos h2, if_pos h3, if_pos h4, hP.out, hR.out, hb', he', Int.toNat_natCast, Int.toNat_natCast]
          rw [← h2.1] at i2 i4 ⊢
          have q0 : ¬ (4096 : Int) < (K.length : Int) := by omega
          generalize K.length = m at *
          clear hK hH hH0 T h2 h3 h4 hf h1 hA
          obtain ⟨o, ho⟩ : ∃ o, Hid (foS (e' - b') b' (e' - b') R = o) := ⟨_, rfl⟩
          rw [ho.out] at i6
          unfold Hid at hAA
          rw [ho.out] at hAA
          have hAA := hid hAA
          clear hb' he'
          cases o with
          | none =>
            simp only [foV] at i6
            go_enter Tryd.func38, Tryd.ntmps38
            go_wp2_with (first
              | (go_at_call 43; refine (i1 _).mono ?_; rintro r w' ⟨rfl, rfl⟩)
              | (go_at_call 72; refine i2.mono ?_; rintro r w' ⟨rfl, rfl⟩)
              | (go_at_call 12; refine (i3 _).mono ?_; rintro r w2 ⟨rfl, hw2⟩; have S2 := hid (S0.out.below hw2); have B2 := hid (B0.out.trans (hw2.mono B0.out.size)); clear hw2))
            have x0 := And.intro S2.out.c0 S2.out.c1
            go_region_held3 (fun w' => w'.cell? ⟨w.heap.size, 0, none⟩ = some (.int .i64 b) ∧ w'.cell? ⟨w.heap.size, 1, none⟩ = some (.int .i64 e)) (first | exact x5 | exact x4 | exact x3 | exact x0) (first
              | (go_at_call 75; refine (i4 _ B2.out.drew).mono ?_; rintro r w3 ⟨v3, rfl, G3⟩; have b3 := drewBelow8 G3.below; have B3 := hid (B2.out.trans (b3.mono B2.out.size)); have S3 := hid (S2.out.below b3); have x3 := And.intro S3.out.c0 S3.out.c1; have i5' := i5 _ _ G3.own; obtain ⟨a3, m3, k3, rfl⟩ := ownM_sl G3.own; clear G3 b3)
              | (go_at_call 74; refine i5'.mono ?_; rintro r w4 ⟨v4, rfl, G4⟩; have b4 := G4.below; have B4 := hid (B3.out.trans (b4.mono B3.out.size)); have S4 := hid (S3.out.below b4); have x4 := And.intro S4.out.c0 S4.out.c1; have i6' := i6 _ _ G4.own B4.out; obtain ⟨a4, m4, k4, rfl⟩ := ownM_sl G4.own; clear G4 b4)
              | (go_at_call 73; refine i6'.mono ?_; rintro r w5 ⟨rfl, b5⟩; have B5 := hid (B4.out.trans (b5.mono B4.out.size)); have S5 := hid (S4.out.below b5); have x5 := And.intro S5.out.c0 S5.out.c1; clear b5))
            go_wp2
            go_ret2
            exact ⟨by rw [hAA.out]; rfl, B5.out⟩
          | some s =>
            simp only [foV] at i6
            go_enter Tryd.func38, Tryd.ntmps38
            go_wp2_with (first
              | (go_at_call 43; refine (i1 _).mono ?_; rintro r w' ⟨rfl, rfl⟩)
              | (go_at_call 72; refine i2.mono ?_; rintro r w' ⟨rfl, rfl⟩)
              | (go_at_call 12; refine (i3 _).mono ?_; rintro r w2 ⟨rfl, hw2⟩; have S2 := hid (S0.out.below hw2); have B2 := hid (B0.out.trans (hw2.mono B0.out.size)); clear hw2))
            have x0 := And.intro S2.out.c0 S2.out.c1
            go_region_held3 (fun w' => w'.cell? ⟨w.heap.size, 0, none⟩ = some (.int .i64 b) ∧ w'.cell? ⟨w.heap.size, 1, none⟩ = some (.int .i64 e)) (first | exact x5 | exact x4 | exact x3 | exact x0) (first
              | (go_at_call 75; refine (i4 _ B2.out.drew).mono ?_; rintro r w3 ⟨v3, rfl, G3⟩; have b3 := drewBelow8 G3.below; have B3 := hid (B2.out.trans (b3.mono B2.out.size)); have S3 := hid (S2.out.below b3); have x3 := And.intro S3.out.c0 S3.out.c1; have i5' := i5 _ _ G3.own; obtain ⟨a3, m3, k3, rfl⟩ := ownM_sl G3.own; clear G3 b3)
              | (go_at_call 74; refine i5'.mono ?_; rintro r w4 ⟨v4, rfl, G4⟩; have b4 := G4.below; have B4 := hid (B3.out.trans (b4.mono B3.out.size)); have S4 := hid (S3.out.below b4); have x4 := And.intro S4.out.c0 S4.out.c1; have i6' := i6 _ _ G4.own B4.out; obtain ⟨a4, m4, k4, rfl⟩ := ownM_sl G4.own; clear G4 b4)
              | (go_at_call 73; refine i6'.mono ?_; rintro r w5 ⟨rfl, b5⟩; have B5 := hid (B4.out.trans (b5.mono B4.out.size)); have S5 := hid (S4.out.below b5); have x5 := And.intro S5.out.c0 S5.out.c1; clear b5))
            go_wp2
            go_ret2
            exact ⟨by rw [hAA.out]; rfl, B5.out⟩
        · have h4 : insB n b e = false := by simpa using h4
          rw [h4] at i3
          have hAA : Hid (A = (⟨#[]⟩, 80)) := by
            unfold Hid
            rw [← hA.out]
            unfold foldA
            rw [if_pos h1, if_pos h2, if_pos h3, if_neg (by rw [h4]; simp)]
          rw [← h2.1] at i2 ⊢
          have q0 : ¬ (4096 : Int) < (K.length : Int) := by omega
          generalize K.length = m at *
          clear hK hH hH0 T h2 h3 h4 h1 hA
          go_enter Tryd.func38, Tryd.ntmps38
          go_wp2_with (first
            | (go_at_call 43; refine (i1 _).mono ?_; rintro r w' ⟨rfl, rfl⟩)
            | (go_at_call 72; refine i2.mono ?_; rintro r w' ⟨rfl, rfl⟩)
            | (go_at_call 12; refine (i3 _).mono ?_; rintro r w2 ⟨rfl, hw2⟩; have B2 := hid (B0.out.trans (hw2.mono B0.out.size)); clear hw2))
          go_ret2
          exact ⟨by rw [hAA.out]; rfl, B2.out⟩
      · have h3 : hsB8 H = false := by simpa using h3
        have i2 := areHashes8_is H false h3 ah ch _ hhl hH0
        have hAA : Hid (A = (⟨#[]⟩, 1)) := by
          unfold Hid
          rw [← hA.out]
          unfold foldA
          rw [if_pos h1, if_pos h2, if_neg (by rw [h3]; simp)]
        rw [← h2.1] at i2 ⊢
        have q0 : ¬ (4096 : Int) < (K.length : Int) := by omega
        generalize K.length = m at *
        clear hK hH hH0 T h2 h3 h1 hA
        go_enter Tryd.func38, Tryd.ntmps38
        go_wp2_with (first
          | (go_at_call 43; refine (i1 _).mono ?_; rintro r w' ⟨rfl, rfl⟩)
          | (go_at_call 72; refine i2.mono ?_; rintro r w' ⟨rfl, rfl⟩))
        go_ret2
        exact ⟨by rw [hAA.out]; rfl, B0.out⟩
    · have hAA : Hid (A = (⟨#[]⟩, 83)) := by
        unfold Hid
        rw [← hA.out]
        unfold foldA
        rw [if_pos h1, if_neg h2]
      clear hK hH T h1 hA
      generalize K.length = m at *
      generalize H.length = k at *
      by_cases h5 : m = k
      · subst h5
        have q0 : (4096 : Int) < (m : Int) := by omega
        clear h2
        go_enter Tryd.func38, Tryd.ntmps38
        go_wp2_with (go_at_call 43; refine (i1 _).mono ?_; rintro r w' ⟨rfl, rfl⟩)
        go_ret2
        exact ⟨by rw [hAA.out]; rfl, B0.out⟩
      · have q0 : ((m : Int) != (k : Int)) = true := by simp; omega
        have q1 : ((m : Int) == (k : Int)) = false := by simp; omega
        clear h2
        go_enter Tryd.func38, Tryd.ntmps38
        go_wp2_with (go_at_call 43; refine (i1 _).mono ?_; rintro r w' ⟨rfl, rfl⟩)
        go_ret2
        exact ⟨by rw [hAA.out]; rfl, B0.out⟩
  · have i1 := fun w' => isSize_is n false (by simpa using h1) w'
    have hAA : Hid (A = (⟨#[]⟩, 81)) := by
      unfold Hid
      rw [← hA.out]
      unfold foldA
      rw [if_neg h1]
    clear hK hH T h1 hA
    generalize K.length = m at *
    generalize H.length = k at *
    go_enter Tryd.func38, Tryd.ntmps38
    go_wp2_with (go_at_call 43; refine (i1 _).mono ?_; rintro r w' ⟨rfl, rfl⟩)
    go_ret2
    exact ⟨by rw [hAA.out]; rfl, B0.out⟩
end Go.Proofs.YtejdecfpegpgcaaDoor

namespace Go.Proofs.YtejdecfpegpgcaaDoor
open Go.RowKit Go.Shelf
set_option maxRecDepth 100000 in
set_option maxHeartbeats 4000000 in
theorem spans_yes (l : List (Int × Int)) (a1 a2 : Option Addr) (c1 c2 : Nat) (w : World) (hl : l.length ≤ 9223372036854775800) (h1 : AtP w a1 l) (h2 : AtP w a2 l) :
    Calls Tryd.prog 40 #[.slice a1 l.length c1, .slice a2 l.length c2] w fun r w' => r = .returned (.bool true) ∧ Below w.heap.size w w' := by
  obtain ⟨n, hn⟩ : ∃ n, Hid (l.length = n) := ⟨_, rfl⟩
  rw [hn.out] at hl ⊢
  have H1 := hid h1
  have H2 := hid h2
  clear h1 h2
  go_enter Tryd.func40, Tryd.ntmps40
  go_wp2
  go_loopw [5] (fun i wr => ∃ k : Nat, i = .int .i64 (k : Int) ∧ k ≤ n ∧ Hid (Below w.heap.size w wr)) (fun i _ => n - (intOf i).toNat)
  case atStart => exact ⟨0, rfl, Nat.zero_le _, Below.refl _ _⟩
  case round =>
    obtain ⟨k, rfl, hk, hB⟩ := hrel
    by_cases hkn : k < n
    · have b0 : (k : Int) < (n : Int) := by omega
      have b1 : (0 : Int) ≤ (k : Int) := by omega
      obtain ⟨x, y, hq⟩ : ∃ x y, l[k]? = some (x, y) := ⟨_, _, List.getElem?_eq_getElem (by have := hn.out; omega)⟩
      obtain ⟨g1, rfl, _, p0, p1⟩ := (H1.out.below hB.out (Nat.le_refl _)) k (x, y) hq
      obtain ⟨g2, rfl, _, q0, q1⟩ := (H2.out.below hB.out (Nat.le_refl _)) k (x, y) hq
      have p0 : wr.cell? ⟨g1, k * 2, none⟩ = some (.int .i64 x) := p0
      have p1 : wr.cell? ⟨g1, k * 2 + 1, none⟩ = some (.int .i64 y) := p1
      have q0 : wr.cell? ⟨g2, k * 2, none⟩ = some (.int .i64 x) := q0
      have q1 : wr.cell? ⟨g2, k * 2 + 1, none⟩ = some (.int .i64 y) := q1
      clear H1 H2 hq
      go_wp2
      go_quiet (fail)
      go_wp2
      exact ⟨⟨k + 1, by go_num, by omega, by first | exact hB | exact hid hB.out.drew | exact hid (below_drewN hB.out _)⟩, by simp [intOf]; omega⟩
    · obtain rfl : k = n := by omega
      have b0 : ¬ (k : Int) < (k : Int) := by omega
      go_wp2
      go_ret
      exact ⟨rfl, hB.out⟩
set_option maxRecDepth 100000 in
set_option maxHeartbeats 4000000 in
theorem nodes_yes (l : List (Int × Int)) (a1 a2 : Option Addr) (c1 c2 : Nat) (w : World) (hl : l.length ≤ 9223372036854775800) (h1 : AtP w a1 l) (h2 : AtP w a2 l) :
    Calls Tryd.prog 39 #[.slice a1 l.length c1, .slice a2 l.length c2] w fun r w' => r = .returned (.bool true) ∧ Below w.heap.size w w' := by
  obtain ⟨n, hn⟩ : ∃ n, Hid (l.length = n) := ⟨_, rfl⟩
  rw [hn.out] at hl ⊢
  have H1 := hid h1
  have H2 := hid h2
  clear h1 h2
  go_enter Tryd.func39, Tryd.ntmps39
  go_wp2
  go_loopw [5] (fun i wr => ∃ k : Nat, i = .int .i64 (k : Int) ∧ k ≤ n ∧ Hid (Below w.heap.size w wr)) (fun i _ => n - (intOf i).toNat)
  case atStart => exact ⟨0, rfl, Nat.zero_le _, Below.refl _ _⟩
  case round =>
    obtain ⟨k, rfl, hk, hB⟩ := hrel
    by_cases hkn : k < n
    · have b0 : (k : Int) < (n : Int) := by omega
      have b1 : (0 : Int) ≤ (k : Int) := by omega
      obtain ⟨x, y, hq⟩ : ∃ x y, l[k]? = some (x, y) := ⟨_, _, List.getElem?_eq_getElem (by have := hn.out; omega)⟩
      obtain ⟨g1, rfl, _, p0, p1⟩ := (H1.out.below hB.out (Nat.le_refl _)) k (x, y) hq
      obtain ⟨g2, rfl, _, q0, q1⟩ := (H2.out.below hB.out (Nat.le_refl _)) k (x, y) hq
      have p0 : wr.cell? ⟨g1, k * 2, none⟩ = some (.int .i64 x) := p0
      have p1 : wr.cell? ⟨g1, k * 2 + 1, none⟩ = some (.int .i64 y) := p1
      have q0 : wr.cell? ⟨g2, k * 2, none⟩ = some (.int .i64 x) := q0
      have q1 : wr.cell? ⟨g2, k * 2 + 1, none⟩ = some (.int .i64 y) := q1
      clear H1 H2 hq
      go_wp2
      go_quiet (fail)
      go_wp2
      exact ⟨⟨k + 1, by go_num, by omega, by first | exact hB | exact hid hB.out.drew | exact hid (below_drewN hB.out _)⟩, by simp [intOf]; omega⟩
    · obtain rfl : k = n := by omega
      have b0 : ¬ (k : Int) < (k : Int) := by omega
      go_wp2
      go_ret
      exact ⟨rfl, hB.out⟩
theorem AtP.lit (w : World) (l : List (Int × Int)) (t : TypeId) : AtP (w.alloc (.cells (prI l).toArray t)) (some ⟨w.heap.size, 0, none⟩) l := fun j q hq => by
  have h := prI_get hq
  refine ⟨w.heap.size, rfl, by rw [size_alloc]; omega, ?_, ?_⟩
  · rw [cell_of_row _ _ _ _ _ _ (heap_alloc_new w _)]; simpa using h.1
  · rw [cell_of_row _ _ _ _ _ _ (heap_alloc_new w _)]; simpa using h.2
theorem AtI.lit (w : World) (l : List Int) (t : TypeId) : AtI (w.alloc (.cells (l.map (Value.int .i64)).toArray t)) (some ⟨w.heap.size, 0, none⟩) l := fun j q hq => by
  refine ⟨⟨w.heap.size, 0, none⟩, rfl, by show w.heap.size < _; rw [size_alloc]; omega, ?_⟩
  rw [Addr.add_mid, cell_of_row _ _ _ _ _ _ (heap_alloc_new w _), Nat.zero_add]
  simp [hq]
set_option maxRecDepth 100000 in
theorem hash8_any (s : ByteArray) (hs : s.size ≤ 140737488355000) (w : World) : Calls Tryd.prog 31 #[.string s] w fun r w' => r = .returned (sv (Sha.sha s.data.toList)) ∧ Below w.heap.size w w' := by
  have i1 := fun w' => rsum_any s (by omega) w'
  obtain ⟨D, hD⟩ : ∃ D : ByteArray, Hid (sv (Sha.sha s.data.toList) = .string D) := ⟨_, rfl⟩
  rw [hD.out] at i1 ⊢
  go_enter Tryd.func31, Tryd.ntmps31
  go_wp2_with (go_at_call 63; refine (i1 _).mono ?_; rintro e w' ⟨rfl, hw⟩)
  go_ret
  exact ⟨rfl, hw⟩
end Go.Proofs.YtejdecfpegpgcaaDoor

namespace Go.Proofs.YtejdecfpegpgcaaDoor
open Go.RowKit
theorem svs_one' {L : List (List UInt8)} {v : Value} (h : v ∈ svs L) : v.oneCell' = true := by
  simp only [svs, List.mem_map] at h
  obtain ⟨n, _, rfl⟩ := h
  rfl
/-- a row of texts -/
def Row (w : World) (H : Nat) (L : List (List UInt8)) : Prop := w.heap[H]? = some (.cells (svs L).toArray 9 (0, 0))
theorem Row.lt {w : World} {H : Nat} {L : List (List UInt8)} (h : Row w H L) : H < w.heap.size := lt_of_heap h
theorem Row.cell {w : World} {H : Nat} {L : List (List UInt8)} (h : Row w H L) {j : Nat} {p : List UInt8} (hp : L[j]? = some p) : w.cell? ⟨H, j, none⟩ = some (sv p) := by
  rw [cell_of_row _ _ _ _ _ _ h]; simp [svs, hp]
theorem Row.at {w : World} {H : Nat} {L : List (List UInt8)} (h : Row w H L) : At w (some ⟨H, 0, none⟩) L := fun j p hp => ⟨_, rfl, h.lt, by rw [Addr.add_mid, Nat.zero_add]; exact h.cell hp⟩
theorem Row.free {w : World} {H : Nat} {L : List (List UInt8)} (h : Row w H L) {j : Nat} (hj : j < L.length) : w.frozen? ⟨H, j, none⟩ = false := by
  have := (there_of_row h 0 L.length (by simp [svs])) j hj
  rw [Nat.zero_add] at this
  exact this.2
theorem Row.below {w w' : World} {H B : Nat} {L : List (List UInt8)} (h : Row w H L) (hb : Below B w w') (hB : H < B) : Row w' H L := by
  unfold Row; rw [hb.block H hB]; exact h
theorem Row.heap {w w' : World} {H : Nat} {L : List (List UInt8)} (h : Row w H L) (e : w'.heap = w.heap) : Row w' H L := by
  unfold Row; rw [e]; exact h
theorem Row.set {w : World} {H : Nat} {L : List (List UInt8)} (h : Row w H L) (k : Nat) (x : List UInt8) : Row (w.setCell ⟨H, k, none⟩ (sv x)) H (L.set k x) := by
  have e := setCell_eq_setRow w H k (svs L).toArray 9 (0, 0) (sv x) h
  unfold Row
  rw [e, setRow_heap _ _ _ _ _ _ h]
  refine congrArg (fun A => some (Obj.cells A 9 (0, 0))) ?_
  simp [svs, List.map_set]
theorem infoS1 : (Tryd.prog.info? 9).map (·.size) = some 1 := by kernel_rfl
/-- make([]string, c) -/
theorem make_texts (w : World) (c : Nat) (hc : c ≤ 8796093021960) :
    (Instr.makeSlice 55 (.int .i64 (c : Int)) (.int .i64 (c : Int))).run Tryd.prog w = .ok (.slice (some ⟨w.heap.size, 0, none⟩) c c) (w.alloc (.cells (svs (List.replicate c [])).toArray 9)) := by
  obtain ⟨i0, hi, hz0, hz1, hz2⟩ := info_parts infoS
  have h := run_make (P := Tryd.prog) w 55 9 i0 (.string ⟨#[]⟩) Tryd.underlying55 hi hz0 .i64 .i64 (c : Int) (c : Int) (by omega) (by omega) (by rw [hz2]; omega) (by omega)
  rw [Int.toNat_natCast, hz1, Nat.mul_one] at h
  have e : madeCells (Value.string ⟨#[]⟩).cells c = (svs (List.replicate c [])).toArray := by
    apply Array.ext'
    rw [show (madeCells (Value.string ⟨#[]⟩).cells c).toList = List.replicate c (.string ⟨#[]⟩) from toList_madeCells_one _ _]
    simp [svs]; exact .inr rfl
  rw [e] at h
  exact h
/-- copy(own, l) -/
theorem copy_texts (w : World) (H : Nat) (a : Option Addr) (cap' : Nat) (ps rest : List (List UInt8)) (hs : At w a ps) (hR : Row w H (List.replicate ps.length [] ++ rest)) (m cap : Nat) (hm : m = ps.length + rest.length) :
    ∃ w', (Builtin.copy_ #[55, 55] 3 #[.slice (some ⟨H, 0, none⟩) m cap, .slice a ps.length cap']).run Tryd.prog w = .ok (goInt ps.length) w' ∧ Row w' H (ps ++ rest) ∧ But H w w' := by
  by_cases h0 : ps.length = 0
  · obtain rfl : ps = [] := List.length_eq_zero_iff.1 h0
    exact ⟨w, run_copy_none (P := Tryd.prog) w _ _ _ 9 _ _ _ _ _ _ Tryd.underlying55 infoS1 (by simp), by simpa using hR, But.refl _ _⟩
  · obtain ⟨x, rfl, hx, _⟩ := hs 0 _ (List.getElem?_eq_getElem (by omega))
    have h := run_copy_row (P := Tryd.prog) w 55 55 3 9 H 0 m cap x ps.length cap' _ 9 (svs ps) Tryd.underlying55 infoS1 hR
      (by rw [svs_length]; exact (Nat.min_eq_left (by omega)).symm) (fun j u hu => by
        simp only [svs, List.getElem?_map, Option.map_eq_some_iff] at hu
        obtain ⟨p, hp, rfl⟩ := hu
        obtain ⟨y, hy, _, hc⟩ := hs j p hp
        cases hy
        exact hc) (by simp [svs]) (fun u hu => svs_one' hu)
    refine ⟨_, h.trans (by rw [svs_length]), ?_, (But.refl _ _).setRow _⟩
    unfold Row
    rw [setRow_heap _ _ _ _ _ _ hR]
    refine congrArg (fun A => some (Obj.cells A 9 (0, 0))) ?_
    simp [svs]
end Go.Proofs.YtejdecfpegpgcaaDoor

namespace Go.Proofs.YtejdecfpegpgcaaDoor
open Go.RowKit Go.Shelf
/-- what such a call answers, as one looks at it -/
def Ans (n : Nat) (l : List (Int × Int)) (w : World) (r : Ending) (w' : World) : Prop := ∃ a k, r = .returned (.tuple #[.slice a n k, .int .i64 0]) ∧ AtP w' a l ∧ Below w.heap.size w w'
theorem SpP.ans {w w' : World} {c : Int} {L : List (Nat × Nat)} {r : Ending} {n : Nat} {l : List (Int × Int)} (h : SpP w c L r w') (hc : c = 0) (hL : L.length = n) (hl : L.map (fun s => ((s.1 : Int), (s.2 : Int))) = l) : Ans n l w r w' := by
  subst hc hL hl
  obtain ⟨hb, v, rfl, ho, _⟩ := h
  obtain ⟨a, k, rfl, _, _⟩ := ho.shape
  exact ⟨a, k, rfl, OwnP.atP ho, hb⟩
theorem e_cover : coverE 1 7 = 0 ∧ coverL 1 7 = [(0, 1), (1, 1), (1, 2), (0, 6)] := by decide +kernel
theorem e_path : pathE 5 0 = 0 ∧ pathL 5 0 = [(1, 2), (2, 4), (4, 5)] := by decide +kernel
theorem e_proof : proofE 3 5 = 0 ∧ proofL 3 5 = [(2, 3), (3, 4), (0, 2), (4, 5)] := by decide +kernel
theorem e_batch : batchE 5 [0, 3] = 0 ∧ batchL 5 [0, 3] = [(1, 2), (2, 3), (4, 5)] := by decide +kernel
theorem e_run : runE 5 1 4 = 0 ∧ runL 5 1 4 = [(0, 1), (4, 5)] := by decide +kernel
theorem e_ins : insB 5 0 4 = true ∧ insB 5 0 5 = true := by decide +kernel
theorem e_sp5 : Tree.sp 5 = 4 := by decide +kernel
theorem e_fo (x y : ByteArray) : foS 5 0 5 (witS 0 5 (prd [(0, 4), (4, 5)] [x, y])) = some ⟨(Tree.nd x.data.toList y.data.toList).toArray⟩ := by
  have e1 : witS 0 5 (prd [(0, 4), (4, 5)] [x, y]) = [((0, 4), x), ((4, 5), y)] := by simp [witS, prd, hasI]
  have e2 : witS ((0 : Nat) : Int) ((0 + 4 : Nat) : Int) [((0, 4), x), ((4, 5), y)] = [((0, 4), x)] := by simp [witS, hasI]
  have e3 : witS ((0 + 4 : Nat) : Int) ((0 + 5 : Nat) : Int) [((0, 4), x), ((4, 5), y)] = [((4, 5), y)] := by simp [witS, hasI]
  have e4 : foS 4 0 4 [((0, 4), x)] = some x := by simp [foS]
  have e5 : foS 4 (0 + 4) (5 - 4) [((4, 5), y)] = some y := by simp [foS]
  have e6 : ([((0, 4), x), ((4, 5), y)] : List Sub).find? (fun q => decide (q.1 = (((0 : Nat) : Int), ((0 + 5 : Nat) : Int)))) = none := by simp
  rw [e1, foS, e6]
  simp only []
  rw [if_neg (by omega), e_sp5, e2, e3, if_neg (by simp), e4, e5]
theorem e_fold (x y : List UInt8) (hx : x.length = 32) (hy : y.length = 32) : foldA 5 [(0, 4), (4, 5)] [x, y] 0 5 = (⟨(Tree.nd x y).toArray⟩, 0) := by
  unfold foldA
  rw [if_pos (by omega), if_pos (by simp), if_pos (by simp [hsB8, hx, hy]), if_pos e_ins.2]
  have := e_fo ⟨x.toArray⟩ ⟨y.toArray⟩
  rw [show (5 : Int).toNat - (0 : Int).toNat = 5 from rfl, show (0 : Int).toNat = 0 from rfl, show bas [x, y] = [⟨x.toArray⟩, ⟨y.toArray⟩] from rfl, this]
set_option maxRecDepth 100000 in
set_option maxHeartbeats 8000000 in
theorem known8_any (w : World) (Z : Tb w) : Calls Tryd.prog 9 #[] w fun r w' => r = .returned (.bool true) ∧ Below w.heap.size w w' := by
  have hZ := Z.lt
  have HZ := hid Z
  have iC := fun (w' : World) (hb : Below w.heap.size w w') => (cover_any 1 7 w' (Z.below hb hZ)).mono (fun r w'' h => h.ans (n := 4) (l := [(0, 1), (1, 1), (1, 2), (0, 6)]) e_cover.1 (by rw [e_cover.2]; rfl) (by rw [e_cover.2]; rfl))
  have iP := fun (w' : World) => (path8_any 5 0 w').mono (fun r w'' h => h.ans (n := 3) (l := [(1, 2), (2, 4), (4, 5)]) e_path.1 (by rw [e_path.2]; rfl) (by rw [e_path.2]; rfl))
  have iR := fun (w' : World) => (proof8_any 3 5 w').mono (fun r w'' h => h.ans (n := 4) (l := [(2, 3), (3, 4), (0, 2), (4, 5)]) e_proof.1 (by rw [e_proof.2]; rfl) (by rw [e_proof.2]; rfl))
  have iB : ∀ w' : World, Calls Tryd.prog 21 #[.int .i64 5, .slice (some ⟨w'.heap.size, 0, none⟩) 2 2] (w'.alloc (.cells #[.int .i64 0, .int .i64 3] 3)) (Ans 3 [(1, 2), (2, 3), (4, 5)] w') := fun w' =>
    (batch8_any 5 [0, 3] (some ⟨w'.heap.size, 0, none⟩) 2 (w'.alloc (.cells #[.int .i64 0, .int .i64 3] 3)) (by decide) (AtI.lit w' [0, 3] 3)).mono (fun r w'' h => by
      obtain ⟨a, k, h1, h2, h3⟩ := h.ans (n := 3) (l := [(1, 2), (2, 3), (4, 5)]) e_batch.1 (by rw [e_batch.2]; rfl) (by rw [e_batch.2]; rfl)
      have hb := (Below.refl _ w').alloc (Nat.le_refl _) (.cells #[.int .i64 0, .int .i64 3] 3)
      exact ⟨a, k, h1, h2, hb.trans (h3.mono hb.size)⟩)
  have iU := fun (w' : World) => (run8_any 5 1 4 w').mono (fun r w'' h => h.ans (n := 2) (l := [(0, 1), (4, 5)]) e_run.1 (by rw [e_run.2]; rfl) (by rw [e_run.2]; rfl))
  have sC : ∀ (a : Option Addr) (k : Nat) (w' : World), AtP w' a [(0, 1), (1, 1), (1, 2), (0, 6)] → Calls Tryd.prog 39 #[.slice a 4 k, .slice (some ⟨w'.heap.size, 0, none⟩) 4 4] (w'.alloc (.cells #[.int .i64 0, .int .i64 1, .int .i64 1, .int .i64 1, .int .i64 1, .int .i64 2, .int .i64 0, .int .i64 6] 69)) fun r w'' => r = .returned (.bool true) ∧ Below w'.heap.size w' w'' := fun a k w' h => by
    have hb := (Below.refl _ w').alloc (Nat.le_refl _) (.cells #[.int .i64 0, .int .i64 1, .int .i64 1, .int .i64 1, .int .i64 1, .int .i64 2, .int .i64 0, .int .i64 6] 69)
    exact (nodes_yes [(0, 1), (1, 1), (1, 2), (0, 6)] a (some ⟨w'.heap.size, 0, none⟩) k 4 _ (by decide) (h.below hb (Nat.le_refl _)) (AtP.lit w' [(0, 1), (1, 1), (1, 2), (0, 6)] 69)).mono (fun r w'' h => ⟨h.1, hb.trans (h.2.mono hb.size)⟩)
  have sP : ∀ (a : Option Addr) (k : Nat) (w' : World), AtP w' a [(1, 2), (2, 4), (4, 5)] → Calls Tryd.prog 40 #[.slice a 3 k, .slice (some ⟨w'.heap.size, 0, none⟩) 3 3] (w'.alloc (.cells #[.int .i64 1, .int .i64 2, .int .i64 2, .int .i64 4, .int .i64 4, .int .i64 5] 25)) fun r w'' => r = .returned (.bool true) ∧ Below w'.heap.size w' w'' := fun a k w' h => by
    have hb := (Below.refl _ w').alloc (Nat.le_refl _) (.cells #[.int .i64 1, .int .i64 2, .int .i64 2, .int .i64 4, .int .i64 4, .int .i64 5] 25)
    exact (spans_yes [(1, 2), (2, 4), (4, 5)] a (some ⟨w'.heap.size, 0, none⟩) k 3 _ (by decide) (h.below hb (Nat.le_refl _)) (AtP.lit w' [(1, 2), (2, 4), (4, 5)] 25)).mono (fun r w'' h => ⟨h.1, hb.trans (h.2.mono hb.size)⟩)
  have sR : ∀ (a : Option Addr) (k : Nat) (w' : World), AtP w' a [(2, 3), (3, 4), (0, 2), (4, 5)] → Calls Tryd.prog 40 #[.slice a 4 k, .slice (some ⟨w'.heap.size, 0, none⟩) 4 4] (w'.alloc (.cells #[.int .i64 2, .int .i64 3, .int .i64 3, .int .i64 4, .int .i64 0, .int .i64 2, .int .i64 4, .int .i64 5] 25)) fun r w'' => r = .returned (.bool true) ∧ Below w'.heap.size w' w'' := fun a k w' h => by
    have hb := (Below.refl _ w').alloc (Nat.le_refl _) (.cells #[.int .i64 2, .int .i64 3, .int .i64 3, .int .i64 4, .int .i64 0, .int .i64 2, .int .i64 4, .int .i64 5] 25)
    exact (spans_yes [(2, 3), (3, 4), (0, 2), (4, 5)] a (some ⟨w'.heap.size, 0, none⟩) k 4 _ (by decide) (h.below hb (Nat.le_refl _)) (AtP.lit w' [(2, 3), (3, 4), (0, 2), (4, 5)] 25)).mono (fun r w'' h => ⟨h.1, hb.trans (h.2.mono hb.size)⟩)
  have sB : ∀ (a : Option Addr) (k : Nat) (w' : World), AtP w' a [(1, 2), (2, 3), (4, 5)] → Calls Tryd.prog 40 #[.slice a 3 k, .slice (some ⟨w'.heap.size, 0, none⟩) 3 3] (w'.alloc (.cells #[.int .i64 1, .int .i64 2, .int .i64 2, .int .i64 3, .int .i64 4, .int .i64 5] 25)) fun r w'' => r = .returned (.bool true) ∧ Below w'.heap.size w' w'' := fun a k w' h => by
    have hb := (Below.refl _ w').alloc (Nat.le_refl _) (.cells #[.int .i64 1, .int .i64 2, .int .i64 2, .int .i64 3, .int .i64 4, .int .i64 5] 25)
    exact (spans_yes [(1, 2), (2, 3), (4, 5)] a (some ⟨w'.heap.size, 0, none⟩) k 3 _ (by decide) (h.below hb (Nat.le_refl _)) (AtP.lit w' [(1, 2), (2, 3), (4, 5)] 25)).mono (fun r w'' h => ⟨h.1, hb.trans (h.2.mono hb.size)⟩)
  have sU : ∀ (a : Option Addr) (k : Nat) (w' : World), AtP w' a [(0, 1), (4, 5)] → Calls Tryd.prog 40 #[.slice a 2 k, .slice (some ⟨w'.heap.size, 0, none⟩) 2 2] (w'.alloc (.cells #[.int .i64 0, .int .i64 1, .int .i64 4, .int .i64 5] 25)) fun r w'' => r = .returned (.bool true) ∧ Below w'.heap.size w' w'' := fun a k w' h => by
    have hb := (Below.refl _ w').alloc (Nat.le_refl _) (.cells #[.int .i64 0, .int .i64 1, .int .i64 4, .int .i64 5] 25)
    exact (spans_yes [(0, 1), (4, 5)] a (some ⟨w'.heap.size, 0, none⟩) k 2 _ (by decide) (h.below hb (Nat.le_refl _)) (AtP.lit w' [(0, 1), (4, 5)] 25)).mono (fun r w'' h => ⟨h.1, hb.trans (h.2.mono hb.size)⟩)
  have hx := fun w' => hash8_any ⟨#[120]⟩ (by decide) w'
  have hy := fun w' => hash8_any ⟨#[121]⟩ (by decide) w'
  obtain ⟨X, hX⟩ : ∃ X : List UInt8, Hid (Sha.sha (ByteArray.mk #[120]).data.toList = X) := ⟨_, rfl⟩
  obtain ⟨Y, hY⟩ : ∃ Y : List UInt8, Hid (Sha.sha (ByteArray.mk #[121]).data.toList = Y) := ⟨_, rfl⟩
  have lX : X.length = 32 := by rw [← hX.out]; exact Sha.sha_length _
  have lY : Y.length = 32 := by rw [← hY.out]; exact Sha.sha_length _
  rw [hX.out] at hx
  rw [hY.out] at hy
  obtain ⟨D, hD⟩ : ∃ D : ByteArray, Hid (⟨(Tree.nd X Y).toArray⟩ = D) := ⟨_, rfl⟩
  have iF : ∀ (w' w2 : World) (hb : Below w.heap.size w w2) (hK : AtP w2 (some ⟨w'.heap.size, 0, none⟩) [(0, 4), (4, 5)]), Calls Tryd.prog 38 #[.int .i64 5, .slice (some ⟨w'.heap.size, 0, none⟩) 2 2, .slice (some ⟨w2.heap.size, 0, none⟩) 2 2, sg 0 5] (w2.alloc (.cells #[.string ⟨X.toArray⟩, .string ⟨Y.toArray⟩] 9)) fun r w'' => r = .returned (.tuple #[.string D, .int .i64 0]) ∧ Below w2.heap.size w2 w'' := fun w' w2 hb hK => by
    have hb2 := (Below.refl _ w2).alloc (Nat.le_refl _) (.cells #[.string ⟨X.toArray⟩, .string ⟨Y.toArray⟩] 9)
    have hA : At (w2.alloc (.cells #[.string ⟨X.toArray⟩, .string ⟨Y.toArray⟩] 9)) (some ⟨w2.heap.size, 0, none⟩) [X, Y] := Row.at (L := [X, Y]) (heap_alloc_new w2 _)
    have h := foldF_any 5 [(0, 4), (4, 5)] [X, Y] 0 5 (some ⟨w'.heap.size, 0, none⟩) (some ⟨w2.heap.size, 0, none⟩) 2 2 _ (by decide) (by show 2 ≤ 9223372036854775807; omega) (hK.below hb2 (Nat.le_refl _)) hA (Z.t.below (hb.trans (hb2.mono hb.size)) hZ)
    rw [e_fold X Y lX lY, hD.out] at h
    exact h.mono (fun r w'' h => ⟨h.1, hb2.trans (h.2.mono hb2.size)⟩)
  have iN := fun w' => rnode_at (l := X) (r := Y) (n := Tree.nd X Y) (c := 0) (by unfold Hid nodeOf; rw [if_pos ⟨lX, lY⟩]; unfold Tree.nd; rw [if_pos ⟨lX, lY⟩]) w'
  rw [show sv (Tree.nd X Y) = .string D by unfold sv; rw [hD.out]] at iN
  have iI := fun w' => inside_any 5 0 4 w'
  rw [e_ins.1] at iI
  obtain ⟨XB, hXB⟩ : ∃ XB : ByteArray, Hid (⟨X.toArray⟩ = XB) := ⟨_, rfl⟩
  obtain ⟨YB, hYB⟩ : ∃ YB : ByteArray, Hid (⟨Y.toArray⟩ = YB) := ⟨_, rfl⟩
  unfold sv at hx hy iN
  rw [hXB.out] at hx iF iN
  rw [hYB.out] at hy iF iN
  have hDD : (D.toList == D.toList) = true := by simp
  have bb : ∀ {a b c : World}, Below w.heap.size a b → Below b.heap.size b c → w.heap.size ≤ b.heap.size → Below w.heap.size a c := fun h1 h2 h3 => h1.trans (h2.mono h3)
  clear Z HZ lX lY hX hY hD hXB hYB
  go_enter Tryd.func9, Tryd.ntmps9
  go_wp2_with (first
    | (go_at_call 13; refine (iC _ (Below.refl _ _)).mono ?_; rintro r w1 ⟨a1, k1, rfl, P1, b1⟩; have P1 := hid P1; have B1 := hid b1; clear b1)
    | (go_at_call 19; refine (iP _).mono ?_; rintro r w2 ⟨a2, k2, rfl, P2, b2⟩; have P1b := hid (P1.out.below b2 (Nat.le_refl _)); have P2 := hid P2; have B2 := hid (B1.out.trans (b2.mono B1.out.size)); clear b2 P1)
    | (go_at_call 20; refine (iR _).mono ?_; rintro r w3 ⟨a3, k3, rfl, P3, b3⟩; have P1c := hid (P1b.out.below b3 (Nat.le_refl _)); have P2c := hid (P2.out.below b3 (Nat.le_refl _)); have P3 := hid P3; have B3 := hid (B2.out.trans (b3.mono B2.out.size)); clear b3 P1b P2)
    | (go_at_call 21; refine (iB _).mono ?_; rintro r w4 ⟨a4, k4, rfl, P4, b4⟩; have P1d := hid (P1c.out.below b4 (Nat.le_refl _)); have P2d := hid (P2c.out.below b4 (Nat.le_refl _)); have P3d := hid (P3.out.below b4 (Nat.le_refl _)); have P4 := hid P4; have B4 := hid (B3.out.trans (b4.mono B3.out.size)); clear b4 P1c P2c P3)
    | (go_at_call 25; refine (iU _).mono ?_; rintro r w5 ⟨a5, k5, rfl, P5, b5⟩; have P1e := hid (P1d.out.below b5 (Nat.le_refl _)); have P2e := hid (P2d.out.below b5 (Nat.le_refl _)); have P3e := hid (P3d.out.below b5 (Nat.le_refl _)); have P4e := hid (P4.out.below b5 (Nat.le_refl _)); have P5 := hid P5; have B5 := hid (B4.out.trans (b5.mono B4.out.size)); clear b5 P1d P2d P3d P4)
    | (go_at_call 39; refine (sC a1 k1 _ P1e.out).mono ?_; rintro r w6 ⟨rfl, b6⟩; have P2f := hid (P2e.out.below b6 (Nat.le_refl _)); have P3f := hid (P3e.out.below b6 (Nat.le_refl _)); have P4f := hid (P4e.out.below b6 (Nat.le_refl _)); have P5f := hid (P5.out.below b6 (Nat.le_refl _)); have B6 := hid (B5.out.trans (b6.mono B5.out.size)); clear b6 P1e P2e P3e P4e P5)
    | (go_at_call 40; (with_reducible refine (sP a2 k2 _ P2f.out).mono ?_); rintro r w7 ⟨rfl, b7⟩; have P3g := hid (P3f.out.below b7 (Nat.le_refl _)); have P4g := hid (P4f.out.below b7 (Nat.le_refl _)); have P5g := hid (P5f.out.below b7 (Nat.le_refl _)); have B7 := hid (B6.out.trans (b7.mono B6.out.size)); clear b7 P2f P3f P4f P5f)
    | (go_at_call 40; (with_reducible refine (sR a3 k3 _ P3g.out).mono ?_); rintro r w8 ⟨rfl, b8⟩; have P4h := hid (P4g.out.below b8 (Nat.le_refl _)); have P5h := hid (P5g.out.below b8 (Nat.le_refl _)); have B8 := hid (B7.out.trans (b8.mono B7.out.size)); clear b8 P3g P4g P5g)
    | (go_at_call 40; (with_reducible refine (sB a4 k4 _ P4h.out).mono ?_); rintro r w9 ⟨rfl, b9⟩; have P5i := hid (P5h.out.below b9 (Nat.le_refl _)); have B9 := hid (B8.out.trans (b9.mono B8.out.size)); clear b9 P4h P5h)
    | (go_at_call 40; (with_reducible refine (sU a5 k5 _ P5i.out).mono ?_); rintro r w10 ⟨rfl, b10⟩; have B10 := hid (B9.out.trans (b10.mono B9.out.size)); have PL := hid (AtP.lit w10 [(0, 4), (4, 5)] 25); have BL := hid (B10.out.trans (((Below.refl _ w10).alloc (Nat.le_refl _) (.cells (prI [(0, 4), (4, 5)]).toArray 25)).mono B10.out.size)); clear b10 P5i)
    | (go_at_call 31; (with_reducible refine (hx _).mono ?_); rintro r wA ⟨rfl, bA⟩; have PA := hid (PL.out.below bA (Nat.le_refl _)); have BA := hid (BL.out.trans (bA.mono BL.out.size)); clear bA PL)
    | (go_at_call 31; (with_reducible refine (hy _).mono ?_); rintro r wB ⟨rfl, bB⟩; have PB := hid (PA.out.below bB (Nat.le_refl _)); have BB := hid (BA.out.trans (bB.mono BA.out.size)); clear bB PA)
    | (go_at_call 38; refine (iF w10 wB BB.out PB.out).mono ?_; rintro r wC ⟨rfl, bC⟩; have BC := hid (BB.out.trans (bC.mono BB.out.size)); clear bC)
    | (go_at_call 31; (with_reducible refine (hx _).mono ?_); rintro r wE ⟨rfl, bE⟩; have BE := hid (BC.out.trans (bE.mono BC.out.size)); clear bE)
    | (go_at_call 31; (with_reducible refine (hy _).mono ?_); rintro r wF ⟨rfl, bF⟩; have BF := hid (BE.out.trans (bF.mono BE.out.size)); clear bF)
    | (go_at_call 41; refine (iN _).mono ?_; rintro r wG ⟨rfl, bG⟩; have BG := hid (BF.out.trans (bG.mono BF.out.size)); clear bG)
    | (go_at_call 12; refine (iI _).mono ?_; rintro r wH ⟨rfl, bH⟩; have BH := hid (BG.out.trans (bH.mono BG.out.size)); clear bH))
  go_ret
  exact ⟨rfl, BH.out⟩
end Go.Proofs.YtejdecfpegpgcaaDoor


namespace Go.Proofs.YtejdecfpegpgcaaDoor
open Go.RowKit Go.Shelf
namespace Tree
/-- two subtrees: one is within the other, or they share no leaf -/
theorem insF_lam : ∀ (f b n x y x' y' : Nat), 1 ≤ n → insF f b n x y = true → insF f b n x' y' = true → y ≤ x' ∨ y' ≤ x ∨ (x ≤ x' ∧ y' ≤ y) ∨ (x' ≤ x ∧ y ≤ y')
  | 0, _, _, _, _, _, _, _, h, _ => by cases h
  | f + 1, b, n, x, y, x', y', h1, h, h' => by
    have i1 := insF_in _ _ _ _ _ h h1
    have i2 := insF_in _ _ _ _ _ h' h1
    rw [insF] at h h'
    split at h
    · omega
    · split at h'
      · omega
      · split at h
        · cases h
        · rename_i h2
          rw [if_neg h2] at h'
          have s1 := sp_lt (n := n) (by omega)
          have s2 := sp_pos (n := n) (by omega)
          split at h
          · split at h'
            · exact insF_lam f b (sp n) x y x' y' (by omega) h h'
            · split at h'
              · omega
              · cases h'
          · split at h
            · split at h'
              · omega
              · split at h'
                · exact insF_lam f (b + sp n) (n - sp n) x y x' y' (by omega) h h'
                · cases h'
            · cases h
end Tree
set_option maxRecDepth 100000 in
set_option maxHeartbeats 2000000 in
theorem rMiddle_at (b e m : Nat) (h2 : 2 ≤ e - b) (he : e ≤ 1099511627776) (hm : Hid (m = b + Tree.sp (e - b))) (w : World) :
    Calls Tryd.prog 42 #[sg b e] w fun r w' => r = .returned (.int .i64 (m : Int)) ∧ Below w.heap.size w w' := by
  obtain ⟨n, hn⟩ : ∃ n, Hid (e - b = n) := ⟨_, rfl⟩
  have S0 := SpI.new w b e
  have B0 := (Below.refl _ w).alloc (Nat.le_refl _) (.cells #[.int .i64 (b : Int), .int .i64 (e : Int)] 25)
  have c0 := S0.c0
  have c1 := S0.c1
  have hn2 : 2 ≤ n := by rw [← hn.out]; exact h2
  have hn3 : n ≤ 1099511627776 := by have := hn.out; omega
  have q0 : (e : Int) - (b : Int) = (n : Int) := by have := hn.out; omega
  have q1 : IntKind.i64.wrap ((e : Int) - (b : Int)) = (n : Int) := by rw [IntKind.wrap_i64]; omega
  rw [hn.out] at hm
  go_enter Tryd.func42, Tryd.ntmps42
  go_wp2
  clear q0 q1
  go_loopw [4] (fun k w' => ∃ a x : Nat, Hid (2 ^ a = x) ∧ k = .int .i64 (x : Int) ∧ x < n ∧ 0 < x ∧ w' = w.alloc (.cells #[.int .i64 (b : Int), .int .i64 (e : Int)] 25)) (fun k _ => n - (intOf k).toNat)
  case atStart => exact ⟨0, 1, rfl, rfl, by omega, by omega, rfl⟩
  case round =>
    obtain ⟨a, x, hx, rfl, hlt, hpos, rfl⟩ := hrel
    by_cases hk : 2 * (x : Int) < n
    · go_wp2
      exact ⟨⟨a + 1, 2 * x, by rw [Hid, Nat.pow_succ, hx.out, Nat.mul_comm], by go_num, by omega, by omega, trivial⟩, by simp [intOf]; omega⟩
    · have em := hid (show Tree.sp n = x by rw [Tree.sp_one hn2 a (by rw [hx.out]; omega) (by rw [hx.out]; omega), hx.out])
      have q2 : IntKind.i64.wrap ((b : Int) + (x : Int)) = (m : Int) := by rw [hm.out, em.out, IntKind.wrap_i64]; have := hn.out; omega
      go_wp2
      go_ret
      exact ⟨rfl, B0⟩
end Go.Proofs.YtejdecfpegpgcaaDoor

namespace Go.Proofs.YtejdecfpegpgcaaDoor
open Go.RowKit Go.Shelf
theorem SpI.set0 {w : World} {g : Nat} {b e : Int} (h : SpI w g b e) (b' : Int) : SpI (w.setCell ⟨g, 0, none⟩ (.int .i64 b')) g b' e := heap_setCell_same w g 0 _ _ _ h
theorem SpI.set1 {w : World} {g : Nat} {b e : Int} (h : SpI w g b e) (e' : Int) : SpI (w.setCell ⟨g, 1, none⟩ (.int .i64 e')) g b e' := heap_setCell_same w g 1 _ _ _ h
/-- a subtree of [0, n), as values -/
def BelP (n : Nat) (w : World) (r : Ending) (w' : World) : Prop := ∃ b e : Nat, r = .returned (sg b e) ∧ Tree.insF n 0 n b e = true ∧ Below w.heap.size w w'
set_option maxRecDepth 100000 in
set_option maxHeartbeats 4000000 in
theorem below8_any (n : Nat) (way : Int) (hn : 1 ≤ n) (hn2 : n ≤ 1099511627776) (hw1 : -9223372036854775808 ≤ way) (hw2 : way ≤ 9223372036854775807) (w : World) :
    Calls Tryd.prog 11 #[.int .i64 (n : Int), .int .i64 way] w (BelP n w) := by
  have R0 := SpI.new w 0 0
  have b1 := (Below.refl _ w).alloc (Nat.le_refl _) (.cells #[.int .i64 0, .int .i64 0] 25)
  have hbA := (Below.refl _ (w.alloc (.cells #[.int .i64 0, .int .i64 0] 25))).alloc (Nat.le_refl _) (.cells #[.int .i64 0, .int .i64 (n : Int)] 25)
  have S0 := SpI.new (w.alloc (.cells #[.int .i64 0, .int .i64 0] 25)) 0 n
  rw [size_alloc] at S0
  have R1 := hid (R0.below hbA)
  have B1 := hid (b1.trans (hbA.mono b1.size))
  have S0 := hid S0
  clear hbA b1 R0
  go_enter Tryd.func11, Tryd.ntmps11
  go_wp2
  go_loopw [1] (fun v wr => ∃ (x : Int) (b e : Nat), v = .int .i64 x ∧ -9223372036854775808 ≤ x ∧ x ≤ 9223372036854775807 ∧ Hid (Tree.insF n 0 n b e = true) ∧ Hid (SpI wr (w.heap.size + 1) b e) ∧ Hid (SpI wr w.heap.size 0 0) ∧ Hid (Below w.heap.size w wr)) (fun _ wr => memN wr (w.heap.size + 1) 1 - memN wr (w.heap.size + 1) 0)
  case atStart => exact ⟨way, 0, n, rfl, hw1, hw2, by unfold Hid; have := Tree.insF_self (f := n - 1) (b := 0) (n := n); rwa [Nat.zero_add, show n - 1 + 1 = n by omega] at this, S0, R1, B1⟩
  case round =>
    clear S0 R1 B1
    obtain ⟨x, b, e, rfl, hx1, hx2, hI, hS, hR, hB⟩ := hrel
    have hin := Tree.insF_in _ _ _ _ _ hI.out hn
    have c0 := hS.out.c0
    have c1 := hS.out.c1
    have r0 := hR.out.c0
    have r1 := hR.out.c1
    have rf0 := hR.out.f0
    have rf1 := hR.out.f1
    have d1 : memN wr (w.heap.size + 1) 1 = e := by unfold memN; rw [hS.out.c1]; exact Int.toNat_natCast _
    have d0 : memN wr (w.heap.size + 1) 0 = b := by unfold memN; rw [hS.out.c0]; exact Int.toNat_natCast _
    have d1 := hid d1
    have d0 := hid d0
    obtain ⟨L, hL⟩ : ∃ L : Nat, (e : Int) - (b : Int) = (L : Int) := ⟨e - b, by omega⟩
    have hLw : IntKind.i64.wrap ((e : Int) - (b : Int)) = (L : Int) := by rw [IntKind.wrap_i64]; omega
    by_cases hgo : (1 : Int) < x ∧ (1 : Int) < (L : Int)
    · have g1 : (1 : Int) < x := hgo.1
      have g2 : (1 : Int) < (L : Int) := hgo.2
      obtain ⟨m, hm⟩ : ∃ m, Hid (m = b + Tree.sp (e - b)) := ⟨_, rfl⟩
      have s1 := Tree.sp_lt (n := e - b) (by omega)
      have s2 := Tree.sp_pos (n := e - b) (by omega)
      have i1 := rMiddle_at b e m (by omega) (by omega) hm wr
      obtain ⟨p1, p2⟩ := Tree.insF_parts n 0 n b e (Nat.le_refl _) hn hI.out (by omega)
      rw [← hm.out] at p1 p2
      have hme : b < m ∧ m < e := by have := hm.out; omega
      have p1 := hid p1
      have p2 := hid p2
      have f0 := hS.out.f0
      have f1 := hS.out.f1
      clear hgo
      obtain ⟨y, hy⟩ : ∃ y : Int, x.tdiv 2 = y := ⟨_, rfl⟩
      have hy1 : 0 ≤ y ∧ y ≤ x := by
        rw [← hy]
        have := Int.tdiv_eq_ediv_of_nonneg (a := x) (b := 2) (by omega)
        omega
      have hyw : IntKind.i64.wrap y = y := by rw [IntKind.wrap_i64]; omega
      have hB2 : Hid (w.heap.size ≤ w.heap.size + 1) := Nat.le_succ _
      obtain ⟨t, htt⟩ : ∃ t : Int, Int.tmod x 2 = t := ⟨_, rfl⟩
      by_cases ht : t = 0
      · subst ht
        go_wp2_with (go_at_call 42; refine i1.mono ?_; rintro r w2 ⟨rfl, hw2⟩; have S2 := hid (hS.out.below hw2); have R2 := hid (hR.out.below hw2); have B2 := hid (hB.out.trans (hw2.mono hB.out.size)); have t1 := S2.out.c1; have u1 := S2.out.f1; clear hw2)
        have S3 := S2.out.set1 (m : Int)
        refine ⟨⟨y, b, m, by simp, by omega, by omega, p1, S3, R2.out.far (w.heap.size + 1) 1 _ (by omega), B2.out.setCell (p := ⟨w.heap.size + 1, 1, none⟩) hB2.out _⟩, ?_⟩
        have e1 : memN (w2.setCell ⟨w.heap.size + 1, 1, none⟩ (.int .i64 (m : Int))) (w.heap.size + 1) 1 = m := by unfold memN; rw [S3.c1]; exact Int.toNat_natCast _
        have e0 : memN (w2.setCell ⟨w.heap.size + 1, 1, none⟩ (.int .i64 (m : Int))) (w.heap.size + 1) 0 = b := by unfold memN; rw [S3.c0]; exact Int.toNat_natCast _
        rw [e1, e0, d1.out, d0.out]
        omega
      · have ht' : (t == 0) = false := by simpa using ht
        go_wp2_with (go_at_call 42; refine i1.mono ?_; rintro r w2 ⟨rfl, hw2⟩; have S2 := hid (hS.out.below hw2); have R2 := hid (hR.out.below hw2); have B2 := hid (hB.out.trans (hw2.mono hB.out.size)); have t0 := S2.out.c0; have u0 := S2.out.f0; clear hw2)
        have S3 := S2.out.set0 (m : Int)
        refine ⟨⟨y, m, e, by simp, by omega, by omega, p2, S3, R2.out.far (w.heap.size + 1) 0 _ (by omega), B2.out.setCell (p := ⟨w.heap.size + 1, 0, none⟩) hB2.out _⟩, ?_⟩
        have e1 : memN (w2.setCell ⟨w.heap.size + 1, 0, none⟩ (.int .i64 (m : Int))) (w.heap.size + 1) 1 = e := by unfold memN; rw [S3.c1]; exact Int.toNat_natCast _
        have e0 : memN (w2.setCell ⟨w.heap.size + 1, 0, none⟩ (.int .i64 (m : Int))) (w.heap.size + 1) 0 = m := by unfold memN; rw [S3.c0]; exact Int.toNat_natCast _
        rw [e1, e0, d1.out, d0.out]
        omega
    · have U := hR.out.two (b : Int) (e : Int)
      by_cases g1 : (1 : Int) < x
      · have g2 : ¬ (1 : Int) < (L : Int) := fun h => hgo ⟨g1, h⟩
        clear hgo
        go_wp2
        refine bodyPost_ret (v := sg b e) (results_cell_row rfl _ _ w.heap.size 25 #[.int .i64 (b : Int), .int .i64 (e : Int)] (0, 0) _ rfl U Tryd.underlying25 rfl sizeSp8) rfl ?_
        exact ⟨b, e, rfl, hI.out, (hB.out.setCell (p := ⟨w.heap.size, 0, none⟩) (Nat.le_refl _) _).setCell (p := ⟨w.heap.size, 1, none⟩) (Nat.le_refl _) _⟩
      · clear hgo
        go_wp2
        refine bodyPost_ret (v := sg b e) (results_cell_row rfl _ _ w.heap.size 25 #[.int .i64 (b : Int), .int .i64 (e : Int)] (0, 0) _ rfl U Tryd.underlying25 rfl sizeSp8) rfl ?_
        exact ⟨b, e, rfl, hI.out, (hB.out.setCell (p := ⟨w.heap.size, 0, none⟩) (Nat.le_refl _) _).setCell (p := ⟨w.heap.size, 1, none⟩) (Nat.le_refl _) _⟩
end Go.Proofs.YtejdecfpegpgcaaDoor
