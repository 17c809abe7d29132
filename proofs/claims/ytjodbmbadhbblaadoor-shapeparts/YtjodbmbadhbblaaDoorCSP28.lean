import Derived.Test.YtjodbmbadhbblaaDoorCSP24
import Derived.Test.YtjodbmbadhbblaaDoorCK5
import Derived.Test.YtjodbmbadhbblaaDoorCR5
import Derived.Test.YtjodbmbadhbblaaDoorCO7
namespace Go.Proofs.YtjodbmbadhbblaaDoor
open Go.RowKit Go.Shelf
/-- H5 -/
def foldA (n : Int) (K : List (Int × Int)) (H : List (List UInt8)) (b e : Int) : ByteArray × Int :=
  if 1 ≤ n ∧ n ≤ 1099511627776 then
    if K.length = H.length ∧ K.length ≤ 4096 then
      if hsB8 H = true then
        if insB n b e = true then
          match foS (e.toNat - b.toNat) b.toNat (e.toNat - b.toNat) (witS b e (prd K (bas H))) with
          | none => (⟨#[]⟩, 82)
          | some s => (s, 0)
        else (⟨#[]⟩, 80)
      else (⟨#[]⟩, 1)
    else (⟨#[]⟩, 83)
  else (⟨#[]⟩, 81)
theorem insB_facts {n b e : Int} (h : insB n b e = true) : 1 ≤ n ∧ n ≤ 1099511627776 ∧ 0 ≤ b ∧ b < e ∧ e ≤ n := by
  unfold insB at h
  rw [Bool.and_eq_true, decide_eq_true_eq] at h
  obtain ⟨h1, h2⟩ := h
  have := Tree.insF_in _ _ _ _ _ h2 (by omega)
  omega
set_option maxRecDepth 100000 in
set_option maxHeartbeats 8000000 in
theorem foldF_any (n : Int) (K : List (Int × Int)) (H : List (List UInt8)) (b e : Int) (ak ah : Option Addr) (ck ch : Nat) (w : World) (hkl : K.length ≤ 9223372036854775807) (hhl : H.length ≤ 9223372036854775807) (hK : AtP w ak K) (hH : At w ah H) (T : Tabs w) :
    Calls Tryd.prog 38 #[.int .i64 n, .slice ak K.length ck, .slice ah H.length ch, sg b e] w fun r w' => r = .returned (.tuple #[.string (foldA n K H b e).1, .int .i64 (foldA n K H b e).2]) ∧ Below w.heap.size w w' := by
  have S0 := hid (SpI.new w b e)
  have B0 := hid ((Below.refl _ w).alloc (Nat.le_refl _) (.cells #[.int .i64 b, .int .i64 e] 25))
  have c0 := S0.out.c0
  have c1 := S0.out.c1
  obtain ⟨A, hA⟩ : ∃ A, Hid (foldA n K H b e = A) := ⟨_, rfl⟩
  rw [hA.out]
  by_cases h1 : 1 ≤ n ∧ n ≤ 1099511627776
  · have i1 := fun w' => isSize_is n true (by simpa using h1) w'
    by_cases h2 : K.length = H.length ∧ K.length ≤ 4096
    · have hH0 : At (w.alloc (.cells #[.int .i64 b, .int .i64 e] 25)) ah H := hH.below B0.out (Nat.le_refl _)
      by_cases h3 : hsB8 H = true
      · have i2 := areHashes8_is H true h3 ah ch _ hhl hH0
        have i3 := fun w' => inside_any n b e w'
        by_cases h4 : insB n b e = true
        · rw [h4] at i3
          have hf := insB_facts h4
          obtain ⟨b', hb'⟩ := Int.eq_ofNat_of_zero_le hf.2.2.1
          obtain ⟨e', he'⟩ := Int.eq_ofNat_of_zero_le (show 0 ≤ e by omega)
          have i4 := fun w' (hb : Below w.heap.size w w') => paired_any K H ak ah ck ch w' h2.1 h2.2 (hK.below hb (Nat.le_refl _)) (hH.below hb (Nat.le_refl _))
          obtain ⟨P, hP⟩ : ∃ P, Hid (prd K (bas H) = P) := ⟨_, rfl⟩
          have lP : Hid (P.length ≤ 4096) := by unfold Hid; rw [← hP.out, prd_len K (bas H) (by unfold bas; rw [List.length_map]; exact h2.1)]; exact h2.2
          rw [hP.out] at i4
          have i5 := fun v w' (ho : OwnS3 w' v P) => within_any b e P v w' ho (by have := lP.out; omega)
          obtain ⟨R, hR⟩ : ∃ R, Hid (witS b e P = R) := ⟨_, rfl⟩
          have lR : Hid (R.length ≤ 4096) := by unfold Hid; rw [← hR.out]; exact Nat.le_trans (witS_len b e P) lP.out
          rw [hR.out] at i5
          have i6 := fun v w' (ho : OwnS3 w' v R) (hb : Below w.heap.size w w') => fold8_any (e' - b') b' (e' - b') R v w' (Nat.le_refl _) (by omega) (by omega) ho lR.out (T.below hb T.lt)
          rw [show b' + (e' - b') = e' by omega, ← hb', ← he'] at i6
          have hAA : Hid (A = match foS (e' - b') b' (e' - b') R with
              | none => (⟨#[]⟩, 82)
              | some s => (s, 0)) := by
            unfold Hid
            rw [← hA.out]
            unfold foldA
            rw [if_pos h1, if_pos h2, if_pos h3, if_pos h4, hP.out, hR.out, hb', he', Int.toNat_natCast, Int.toNat_natCast]
          rw [← h2.1] at i2 i4 ⊢
          have q0 : ¬ (4096 : Int) < (K.length : Int) := by omega
          generalize K.length = m at *
          clear hK hH hH0 T h2 h3 h4 hf h1 hA
          obtain ⟨o, ho⟩ : ∃ o, Hid (foS (e' - b') b' (e' - b') R = o) := ⟨_, rfl⟩
          rw [ho.out] at i6
          unfold Hid at hAA
          rw [ho.out] at hAA
          have hAA := hid hAA
          clear hb' he'
          cases o with
          | none =>
            simp only [foV] at i6
            go_enter Tryd.func38, Tryd.ntmps38
            go_wp2_with (first
              | (go_at_call 43; refine (i1 _).mono ?_; rintro r w' ⟨rfl, rfl⟩)
              | (go_at_call 72; refine i2.mono ?_; rintro r w' ⟨rfl, rfl⟩)
              | (go_at_call 12; refine (i3 _).mono ?_; rintro r w2 ⟨rfl, hw2⟩; have S2 := hid (S0.out.below hw2); have B2 := hid (B0.out.trans (hw2.mono B0.out.size)); clear hw2))
            have x0 := And.intro S2.out.c0 S2.out.c1
            go_region_held3 (fun w' => w'.cell? ⟨w.heap.size, 0, none⟩ = some (.int .i64 b) ∧ w'.cell? ⟨w.heap.size, 1, none⟩ = some (.int .i64 e)) (first | exact x5 | exact x4 | exact x3 | exact x0) (first
              | (go_at_call 75; refine (i4 _ B2.out.drew).mono ?_; rintro r w3 ⟨v3, rfl, G3⟩; have b3 := drewBelow8 G3.below; have B3 := hid (B2.out.trans (b3.mono B2.out.size)); have S3 := hid (S2.out.below b3); have x3 := And.intro S3.out.c0 S3.out.c1; have i5' := i5 _ _ G3.own; obtain ⟨a3, m3, k3, rfl⟩ := ownM_sl G3.own; clear G3 b3)
              | (go_at_call 74; refine i5'.mono ?_; rintro r w4 ⟨v4, rfl, G4⟩; have b4 := G4.below; have B4 := hid (B3.out.trans (b4.mono B3.out.size)); have S4 := hid (S3.out.below b4); have x4 := And.intro S4.out.c0 S4.out.c1; have i6' := i6 _ _ G4.own B4.out; obtain ⟨a4, m4, k4, rfl⟩ := ownM_sl G4.own; clear G4 b4)
              | (go_at_call 73; refine i6'.mono ?_; rintro r w5 ⟨rfl, b5⟩; have B5 := hid (B4.out.trans (b5.mono B4.out.size)); have S5 := hid (S4.out.below b5); have x5 := And.intro S5.out.c0 S5.out.c1; clear b5))
            go_wp2
            go_ret2
            exact ⟨by rw [hAA.out]; rfl, B5.out⟩
          | some s =>
            simp only [foV] at i6
            go_enter Tryd.func38, Tryd.ntmps38
            go_wp2_with (first
              | (go_at_call 43; refine (i1 _).mono ?_; rintro r w' ⟨rfl, rfl⟩)
              | (go_at_call 72; refine i2.mono ?_; rintro r w' ⟨rfl, rfl⟩)
              | (go_at_call 12; refine (i3 _).mono ?_; rintro r w2 ⟨rfl, hw2⟩; have S2 := hid (S0.out.below hw2); have B2 := hid (B0.out.trans (hw2.mono B0.out.size)); clear hw2))
            have x0 := And.intro S2.out.c0 S2.out.c1
            go_region_held3 (fun w' => w'.cell? ⟨w.heap.size, 0, none⟩ = some (.int .i64 b) ∧ w'.cell? ⟨w.heap.size, 1, none⟩ = some (.int .i64 e)) (first | exact x5 | exact x4 | exact x3 | exact x0) (first
              | (go_at_call 75; refine (i4 _ B2.out.drew).mono ?_; rintro r w3 ⟨v3, rfl, G3⟩; have b3 := drewBelow8 G3.below; have B3 := hid (B2.out.trans (b3.mono B2.out.size)); have S3 := hid (S2.out.below b3); have x3 := And.intro S3.out.c0 S3.out.c1; have i5' := i5 _ _ G3.own; obtain ⟨a3, m3, k3, rfl⟩ := ownM_sl G3.own; clear G3 b3)
              | (go_at_call 74; refine i5'.mono ?_; rintro r w4 ⟨v4, rfl, G4⟩; have b4 := G4.below; have B4 := hid (B3.out.trans (b4.mono B3.out.size)); have S4 := hid (S3.out.below b4); have x4 := And.intro S4.out.c0 S4.out.c1; have i6' := i6 _ _ G4.own B4.out; obtain ⟨a4, m4, k4, rfl⟩ := ownM_sl G4.own; clear G4 b4)
              | (go_at_call 73; refine i6'.mono ?_; rintro r w5 ⟨rfl, b5⟩; have B5 := hid (B4.out.trans (b5.mono B4.out.size)); have S5 := hid (S4.out.below b5); have x5 := And.intro S5.out.c0 S5.out.c1; clear b5))
            go_wp2
            go_ret2
            exact ⟨by rw [hAA.out]; rfl, B5.out⟩
        · have h4 : insB n b e = false := by simpa using h4
          rw [h4] at i3
          have hAA : Hid (A = (⟨#[]⟩, 80)) := by
            unfold Hid
            rw [← hA.out]
            unfold foldA
            rw [if_pos h1, if_pos h2, if_pos h3, if_neg (by rw [h4]; simp)]
          rw [← h2.1] at i2 ⊢
          have q0 : ¬ (4096 : Int) < (K.length : Int) := by omega
          generalize K.length = m at *
          clear hK hH hH0 T h2 h3 h4 h1 hA
          go_enter Tryd.func38, Tryd.ntmps38
          go_wp2_with (first
            | (go_at_call 43; refine (i1 _).mono ?_; rintro r w' ⟨rfl, rfl⟩)
            | (go_at_call 72; refine i2.mono ?_; rintro r w' ⟨rfl, rfl⟩)
            | (go_at_call 12; refine (i3 _).mono ?_; rintro r w2 ⟨rfl, hw2⟩; have B2 := hid (B0.out.trans (hw2.mono B0.out.size)); clear hw2))
          go_ret2
          exact ⟨by rw [hAA.out]; rfl, B2.out⟩
      · have h3 : hsB8 H = false := by simpa using h3
        have i2 := areHashes8_is H false h3 ah ch _ hhl hH0
        have hAA : Hid (A = (⟨#[]⟩, 1)) := by
          unfold Hid
          rw [← hA.out]
          unfold foldA
          rw [if_pos h1, if_pos h2, if_neg (by rw [h3]; simp)]
        rw [← h2.1] at i2 ⊢
        have q0 : ¬ (4096 : Int) < (K.length : Int) := by omega
        generalize K.length = m at *
        clear hK hH hH0 T h2 h3 h1 hA
        go_enter Tryd.func38, Tryd.ntmps38
        go_wp2_with (first
          | (go_at_call 43; refine (i1 _).mono ?_; rintro r w' ⟨rfl, rfl⟩)
          | (go_at_call 72; refine i2.mono ?_; rintro r w' ⟨rfl, rfl⟩))
        go_ret2
        exact ⟨by rw [hAA.out]; rfl, B0.out⟩
    · have hAA : Hid (A = (⟨#[]⟩, 83)) := by
        unfold Hid
        rw [← hA.out]
        unfold foldA
        rw [if_pos h1, if_neg h2]
      clear hK hH T h1 hA
      generalize K.length = m at *
      generalize H.length = k at *
      by_cases h5 : m = k
      · subst h5
        have q0 : (4096 : Int) < (m : Int) := by omega
        clear h2
        go_enter Tryd.func38, Tryd.ntmps38
        go_wp2_with (go_at_call 43; refine (i1 _).mono ?_; rintro r w' ⟨rfl, rfl⟩)
        go_ret2
        exact ⟨by rw [hAA.out]; rfl, B0.out⟩
      · have q0 : ((m : Int) != (k : Int)) = true := by simp; omega
        have q1 : ((m : Int) == (k : Int)) = false := by simp; omega
        clear h2
        go_enter Tryd.func38, Tryd.ntmps38
        go_wp2_with (go_at_call 43; refine (i1 _).mono ?_; rintro r w' ⟨rfl, rfl⟩)
        go_ret2
        exact ⟨by rw [hAA.out]; rfl, B0.out⟩
  · have i1 := fun w' => isSize_is n false (by simpa using h1) w'
    have hAA : Hid (A = (⟨#[]⟩, 81)) := by
      unfold Hid
      rw [← hA.out]
      unfold foldA
      rw [if_neg h1]
    clear hK hH T h1 hA
    generalize K.length = m at *
    generalize H.length = k at *
    go_enter Tryd.func38, Tryd.ntmps38
    go_wp2_with (go_at_call 43; refine (i1 _).mono ?_; rintro r w' ⟨rfl, rfl⟩)
    go_ret2
    exact ⟨by rw [hAA.out]; rfl, B0.out⟩
end Go.Proofs.YtjodbmbadhbblaaDoor

namespace Go.Proofs.YtjodbmbadhbblaaDoor
open Go.RowKit Go.Shelf
set_option maxRecDepth 100000 in
set_option maxHeartbeats 4000000 in
theorem spans_yes (l : List (Int × Int)) (a1 a2 : Option Addr) (c1 c2 : Nat) (w : World) (hl : l.length ≤ 9223372036854775800) (h1 : AtP w a1 l) (h2 : AtP w a2 l) :
    Calls Tryd.prog 40 #[.slice a1 l.length c1, .slice a2 l.length c2] w fun r w' => r = .returned (.bool true) ∧ Below w.heap.size w w' := by
  obtain ⟨n, hn⟩ : ∃ n, Hid (l.length = n) := ⟨_, rfl⟩
  rw [hn.out] at hl ⊢
  have H1 := hid h1
  have H2 := hid h2
  clear h1 h2
  go_enter Tryd.func40, Tryd.ntmps40
  go_wp2
  go_loopw [5] (fun i wr => ∃ k : Nat, i = .int .i64 (k : Int) ∧ k ≤ n ∧ Hid (Below w.heap.size w wr)) (fun i _ => n - (intOf i).toNat)
  case atStart => exact ⟨0, rfl, Nat.zero_le _, Below.refl _ _⟩
  case round =>
    obtain ⟨k, rfl, hk, hB⟩ := hrel
    by_cases hkn : k < n
    · have b0 : (k : Int) < (n : Int) := by omega
      have b1 : (0 : Int) ≤ (k : Int) := by omega
      obtain ⟨x, y, hq⟩ : ∃ x y, l[k]? = some (x, y) := ⟨_, _, List.getElem?_eq_getElem (by have := hn.out; omega)⟩
      obtain ⟨g1, rfl, _, p0, p1⟩ := (H1.out.below hB.out (Nat.le_refl _)) k (x, y) hq
      obtain ⟨g2, rfl, _, q0, q1⟩ := (H2.out.below hB.out (Nat.le_refl _)) k (x, y) hq
      have p0 : wr.cell? ⟨g1, k * 2, none⟩ = some (.int .i64 x) := p0
      have p1 : wr.cell? ⟨g1, k * 2 + 1, none⟩ = some (.int .i64 y) := p1
      have q0 : wr.cell? ⟨g2, k * 2, none⟩ = some (.int .i64 x) := q0
      have q1 : wr.cell? ⟨g2, k * 2 + 1, none⟩ = some (.int .i64 y) := q1
      clear H1 H2 hq
      go_wp2
      go_quiet (fail)
      go_wp2
      exact ⟨⟨k + 1, by go_num, by omega, by first | exact hB | exact hid hB.out.drew | exact hid (below_drewN hB.out _)⟩, by simp [intOf]; omega⟩
    · obtain rfl : k = n := by omega
      have b0 : ¬ (k : Int) < (k : Int) := by omega
      go_wp2
      go_ret
      exact ⟨rfl, hB.out⟩
set_option maxRecDepth 100000 in
set_option maxHeartbeats 4000000 in
theorem nodes_yes (l : List (Int × Int)) (a1 a2 : Option Addr) (c1 c2 : Nat) (w : World) (hl : l.length ≤ 9223372036854775800) (h1 : AtP w a1 l) (h2 : AtP w a2 l) :
    Calls Tryd.prog 39 #[.slice a1 l.length c1, .slice a2 l.length c2] w fun r w' => r = .returned (.bool true) ∧ Below w.heap.size w w' := by
  obtain ⟨n, hn⟩ : ∃ n, Hid (l.length = n) := ⟨_, rfl⟩
  rw [hn.out] at hl ⊢
  have H1 := hid h1
  have H2 := hid h2
  clear h1 h2
  go_enter Tryd.func39, Tryd.ntmps39
  go_wp2
  go_loopw [5] (fun i wr => ∃ k : Nat, i = .int .i64 (k : Int) ∧ k ≤ n ∧ Hid (Below w.heap.size w wr)) (fun i _ => n - (intOf i).toNat)
  case atStart => exact ⟨0, rfl, Nat.zero_le _, Below.refl _ _⟩
  case round =>
    obtain ⟨k, rfl, hk, hB⟩ := hrel
    by_cases hkn : k < n
    · have b0 : (k : Int) < (n : Int) := by omega
      have b1 : (0 : Int) ≤ (k : Int) := by omega
      obtain ⟨x, y, hq⟩ : ∃ x y, l[k]? = some (x, y) := ⟨_, _, List.getElem?_eq_getElem (by have := hn.out; omega)⟩
      obtain ⟨g1, rfl, _, p0, p1⟩ := (H1.out.below hB.out (Nat.le_refl _)) k (x, y) hq
      obtain ⟨g2, rfl, _, q0, q1⟩ := (H2.out.below hB.out (Nat.le_refl _)) k (x, y) hq
      have p0 : wr.cell? ⟨g1, k * 2, none⟩ = some (.int .i64 x) := p0
      have p1 : wr.cell? ⟨g1, k * 2 + 1, none⟩ = some (.int .i64 y) := p1
      have q0 : wr.cell? ⟨g2, k * 2, none⟩ = some (.int .i64 x) := q0
      have q1 : wr.cell? ⟨g2, k * 2 + 1, none⟩ = some (.int .i64 y) := q1
      clear H1 H2 hq
      go_wp2
      go_quiet (fail)
      go_wp2
      exact ⟨⟨k + 1, by go_num, by omega, by first | exact hB | exact hid hB.out.drew | exact hid (below_drewN hB.out _)⟩, by simp [intOf]; omega⟩
    · obtain rfl : k = n := by omega
      have b0 : ¬ (k : Int) < (k : Int) := by omega
      go_wp2
      go_ret
      exact ⟨rfl, hB.out⟩
theorem AtP.lit (w : World) (l : List (Int × Int)) (t : TypeId) : AtP (w.alloc (.cells (prI l).toArray t)) (some ⟨w.heap.size, 0, none⟩) l := fun j q hq => by
  have h := prI_get hq
  refine ⟨w.heap.size, rfl, by rw [size_alloc]; omega, ?_, ?_⟩
  · rw [cell_of_row _ _ _ _ _ _ (heap_alloc_new w _)]; simpa using h.1
  · rw [cell_of_row _ _ _ _ _ _ (heap_alloc_new w _)]; simpa using h.2
theorem AtI.lit (w : World) (l : List Int) (t : TypeId) : AtI (w.alloc (.cells (l.map (Value.int .i64)).toArray t)) (some ⟨w.heap.size, 0, none⟩) l := fun j q hq => by
  refine ⟨⟨w.heap.size, 0, none⟩, rfl, by show w.heap.size < _; rw [size_alloc]; omega, ?_⟩
  rw [Addr.add_mid, cell_of_row _ _ _ _ _ _ (heap_alloc_new w _), Nat.zero_add]
  simp [hq]
set_option maxRecDepth 100000 in
theorem hash8_any (s : ByteArray) (hs : s.size ≤ 140737488355000) (w : World) : Calls Tryd.prog 31 #[.string s] w fun r w' => r = .returned (sv (Sha.sha s.data.toList)) ∧ Below w.heap.size w w' := by
  have i1 := fun w' => rsum_any s (by omega) w'
  obtain ⟨D, hD⟩ : ∃ D : ByteArray, Hid (sv (Sha.sha s.data.toList) = .string D) := ⟨_, rfl⟩
  rw [hD.out] at i1 ⊢
  go_enter Tryd.func31, Tryd.ntmps31
  go_wp2_with (go_at_call 63; refine (i1 _).mono ?_; rintro e w' ⟨rfl, hw⟩)
  go_ret
  exact ⟨rfl, hw⟩
end Go.Proofs.YtjodbmbadhbblaaDoor

namespace Go.Proofs.YtjodbmbadhbblaaDoor
open Go.RowKit
theorem svs_one' {L : List (List UInt8)} {v : Value} (h : v ∈ svs L) : v.oneCell' = true := by
  simp only [svs, List.mem_map] at h
  obtain ⟨n, _, rfl⟩ := h
  rfl
/-- a row of texts -/
def Row (w : World) (H : Nat) (L : List (List UInt8)) : Prop := w.heap[H]? = some (.cells (svs L).toArray 9 (0, 0))
theorem Row.lt {w : World} {H : Nat} {L : List (List UInt8)} (h : Row w H L) : H < w.heap.size := lt_of_heap h
theorem Row.cell {w : World} {H : Nat} {L : List (List UInt8)} (h : Row w H L) {j : Nat} {p : List UInt8} (hp : L[j]? = some p) : w.cell? ⟨H, j, none⟩ = some (sv p) := by
  rw [cell_of_row _ _ _ _ _ _ h]; simp [svs, hp]
theorem Row.at {w : World} {H : Nat} {L : List (List UInt8)} (h : Row w H L) : At w (some ⟨H, 0, none⟩) L := fun j p hp => ⟨_, rfl, h.lt, by rw [Addr.add_mid, Nat.zero_add]; exact h.cell hp⟩
theorem Row.free {w : World} {H : Nat} {L : List (List UInt8)} (h : Row w H L) {j : Nat} (hj : j < L.length) : w.frozen? ⟨H, j, none⟩ = false := by
  have := (there_of_row h 0 L.length (by simp [svs])) j hj
  rw [Nat.zero_add] at this
  exact this.2
theorem Row.below {w w' : World} {H B : Nat} {L : List (List UInt8)} (h : Row w H L) (hb : Below B w w') (hB : H < B) : Row w' H L := by
  unfold Row; rw [hb.block H hB]; exact h
theorem Row.heap {w w' : World} {H : Nat} {L : List (List UInt8)} (h : Row w H L) (e : w'.heap = w.heap) : Row w' H L := by
  unfold Row; rw [e]; exact h
theorem Row.set {w : World} {H : Nat} {L : List (List UInt8)} (h : Row w H L) (k : Nat) (x : List UInt8) : Row (w.setCell ⟨H, k, none⟩ (sv x)) H (L.set k x) := by
  have e := setCell_eq_setRow w H k (svs L).toArray 9 (0, 0) (sv x) h
  unfold Row
  rw [e, setRow_heap _ _ _ _ _ _ h]
  refine congrArg (fun A => some (Obj.cells A 9 (0, 0))) ?_
  simp [svs, List.map_set]
theorem infoS1 : (Tryd.prog.info? 9).map (·.size) = some 1 := by kernel_rfl
/-- make([]string, c) -/
theorem make_texts (w : World) (c : Nat) (hc : c ≤ 8796093021960) :
    (Instr.makeSlice 55 (.int .i64 (c : Int)) (.int .i64 (c : Int))).run Tryd.prog w = .ok (.slice (some ⟨w.heap.size, 0, none⟩) c c) (w.alloc (.cells (svs (List.replicate c [])).toArray 9)) := by
  obtain ⟨i0, hi, hz0, hz1, hz2⟩ := info_parts infoS
  have h := run_make (P := Tryd.prog) w 55 9 i0 (.string ⟨#[]⟩) Tryd.underlying55 hi hz0 .i64 .i64 (c : Int) (c : Int) (by omega) (by omega) (by rw [hz2]; omega) (by omega)
  rw [Int.toNat_natCast, hz1, Nat.mul_one] at h
  have e : madeCells (Value.string ⟨#[]⟩).cells c = (svs (List.replicate c [])).toArray := by
    apply Array.ext'
    rw [show (madeCells (Value.string ⟨#[]⟩).cells c).toList = List.replicate c (.string ⟨#[]⟩) from toList_madeCells_one _ _]
    simp [svs]; exact .inr rfl
  rw [e] at h
  exact h
/-- copy(own, l) -/
theorem copy_texts (w : World) (H : Nat) (a : Option Addr) (cap' : Nat) (ps rest : List (List UInt8)) (hs : At w a ps) (hR : Row w H (List.replicate ps.length [] ++ rest)) (m cap : Nat) (hm : m = ps.length + rest.length) :
    ∃ w', (Builtin.copy_ #[55, 55] 3 #[.slice (some ⟨H, 0, none⟩) m cap, .slice a ps.length cap']).run Tryd.prog w = .ok (goInt ps.length) w' ∧ Row w' H (ps ++ rest) ∧ But H w w' := by
  by_cases h0 : ps.length = 0
  · obtain rfl : ps = [] := List.length_eq_zero_iff.1 h0
    exact ⟨w, run_copy_none (P := Tryd.prog) w _ _ _ 9 _ _ _ _ _ _ Tryd.underlying55 infoS1 (by simp), by simpa using hR, But.refl _ _⟩
  · obtain ⟨x, rfl, hx, _⟩ := hs 0 _ (List.getElem?_eq_getElem (by omega))
    have h := run_copy_row (P := Tryd.prog) w 55 55 3 9 H 0 m cap x ps.length cap' _ 9 (svs ps) Tryd.underlying55 infoS1 hR
      (by rw [svs_length]; exact (Nat.min_eq_left (by omega)).symm) (fun j u hu => by
        simp only [svs, List.getElem?_map, Option.map_eq_some_iff] at hu
        obtain ⟨p, hp, rfl⟩ := hu
        obtain ⟨y, hy, _, hc⟩ := hs j p hp
        cases hy
        exact hc) (by simp [svs]) (fun u hu => svs_one' hu)
    refine ⟨_, h.trans (by rw [svs_length]), ?_, (But.refl _ _).setRow _⟩
    unfold Row
    rw [setRow_heap _ _ _ _ _ _ hR]
    refine congrArg (fun A => some (Obj.cells A 9 (0, 0))) ?_
    simp [svs]
end Go.Proofs.YtjodbmbadhbblaaDoor
