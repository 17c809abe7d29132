import Derived.Test.YtjcapdkibbjmiaaGreatDoorPkSP24
import Derived.Test.YtjcapdkibbjmiaaGreatDoorPkCM2
import Derived.Test.YtjcapdkibbjmiaaGreatDoorPkO3
namespace Go.Proofs.YtjcapdkibbjmiaaGreatDoor
open Go.RowKit Go.Shelf
def foldA (n : Int) (K : List (Int × Int)) (H : List (List UInt8)) (b e : Int) : ByteArray × Int :=
  if 1 ≤ n ∧ n ≤ 1099511627776 then
    if K.length = H.length ∧ K.length ≤ 4096 then
      if hsB8 H = true then
        if insB n b e = true then
          match foS (e.toNat - b.toNat) b.toNat (e.toNat - b.toNat) (witS b e (prd K (bas H))) with
          | none => (⟨#[]⟩, 82)
          | some s => (s, 0)
        else (⟨#[]⟩, 80)
      else (⟨#[]⟩, 1)
    else (⟨#[]⟩, 83)
  else (⟨#[]⟩, 81)
theorem insB_facts {n b e : Int} (h : insB n b e = true) : 1 ≤ n ∧ n ≤ 1099511627776 ∧ 0 ≤ b ∧ b < e ∧ e ≤ n := by
  unfold insB at h
  rw [Bool.and_eq_true, decide_eq_true_eq] at h
  obtain ⟨h1, h2⟩ := h
  have := Tree.insF_in _ _ _ _ _ h2 (by omega)
  omega
set_option maxRecDepth 100000 in
set_option maxHeartbeats 8000000 in
theorem foldF_any (n : Int) (K : List (Int × Int)) (H : List (List UInt8)) (b e : Int) (ak ah : Option Addr) (ck ch : Nat) (w : World) (hkl : K.length ≤ 9223372036854775807) (hhl : H.length ≤ 9223372036854775807) (hK : AtP w ak K) (hH : At w ah H) (T : Tabs w) :
    Calls Tryz.prog 103 #[.int .i64 n, .slice ak K.length ck, .slice ah H.length ch, sg b e] w fun r w' => r = .returned (.tuple #[.string (foldA n K H b e).1, .int .i64 (foldA n K H b e).2]) ∧ Below w.heap.size w w' := by
  have S0 := hid (SpI.new w b e)
  have B0 := hid ((Below.refl _ w).alloc (Nat.le_refl _) (.cells #[.int .i64 b, .int .i64 e] 60))
  have c0 := S0.out.c0
  have c1 := S0.out.c1
  obtain ⟨A, hA⟩ : ∃ A, Hid (foldA n K H b e = A) := ⟨_, rfl⟩
  rw [hA.out]
  by_cases h1 : 1 ≤ n ∧ n ≤ 1099511627776
  · have i1 := fun w' => isSize_is n true (by simpa using h1) w'
    by_cases h2 : K.length = H.length ∧ K.length ≤ 4096
    · have hH0 : At (w.alloc (.cells #[.int .i64 b, .int .i64 e] 60)) ah H := hH.below B0.out (Nat.le_refl _)
      by_cases h3 : hsB8 H = true
      · have i2 := areHashes8_is H true h3 ah ch _ hhl hH0
        have i3 := fun w' => inside_any n b e w'
        by_cases h4 : insB n b e = true
        · rw [h4] at i3
          have hf := insB_facts h4
          obtain ⟨b', hb'⟩ := Int.eq_ofNat_of_zero_le hf.2.2.1
          obtain ⟨e', he'⟩ := Int.eq_ofNat_of_zero_le (show 0 ≤ e by omega)
          have i4 := fun w' (hb : Below w.heap.size w w') => paired_any K H ak ah ck ch w' h2.1 h2.2 (hK.below hb (Nat.le_refl _)) (hH.below hb (Nat.le_refl _))
          obtain ⟨P, hP⟩ : ∃ P, Hid (prd K (bas H) = P) := ⟨_, rfl⟩
          have lP : Hid (P.length ≤ 4096) := by unfold Hid; rw [← hP.out, prd_len K (bas H) (by unfold bas; rw [List.length_map]; exact h2.1)]; exact h2.2
          rw [hP.out] at i4
          have i5 := fun v w' (ho : OwnS3 w' v P) => within_any b e P v w' ho (by have := lP.out; omega)
          obtain ⟨R, hR⟩ : ∃ R, Hid (witS b e P = R) := ⟨_, rfl⟩
          have lR : Hid (R.length ≤ 4096) := by unfold Hid; rw [← hR.out]; exact Nat.le_trans (witS_len b e P) lP.out
          rw [hR.out] at i5
          have i6 := fun v w' (ho : OwnS3 w' v R) (hb : Below w.heap.size w w') => fold8_any (e' - b') b' (e' - b') R v w' (Nat.le_refl _) (by omega) (by omega) ho lR.out (T.below hb T.lt)
          rw [show b' + (e' - b') = e' by omega, ← hb', ← he'] at i6
          have hAA : Hid (A = match foS (e' - b') b' (e' - b') R with
              | none => (⟨#[]⟩, 82)
              | some s => (s, 0)) := by
            unfold Hid
            rw [← hA.out]
            unfold foldA
            rw [if_pos h1, if_pos h2, if_pos h3, if_pos h4, hP.out, hR.out, hb', he', Int.toNat_natCast, Int.toNat_natCast]
          rw [← h2.1] at i2 i4 ⊢
          have q0 : ¬ (4096 : Int) < (K.length : Int) := by omega
          generalize K.length = m at *
          clear hK hH hH0 T h2 h3 h4 hf h1 hA
          obtain ⟨o, ho⟩ : ∃ o, Hid (foS (e' - b') b' (e' - b') R = o) := ⟨_, rfl⟩
          rw [ho.out] at i6
          unfold Hid at hAA
          rw [ho.out] at hAA
          have hAA := hid hAA
          clear hb' he'
          cases o with
          | none =>
            simp only [foV] at i6
            go_enter Tryz.func103, Tryz.ntmps103
            go_wp2_with (first
              | (go_at_call 118; refine (i1 _).mono ?_; rintro r w' ⟨rfl, rfl⟩)
              | (go_at_call 119; refine i2.mono ?_; rintro r w' ⟨rfl, rfl⟩)
              | (go_at_call 120; refine (i3 _).mono ?_; rintro r w2 ⟨rfl, hw2⟩; have S2 := hid (S0.out.below hw2); have B2 := hid (B0.out.trans (hw2.mono B0.out.size)); clear hw2))
            have x0 := And.intro S2.out.c0 S2.out.c1
            go_region_held3 (fun w' => w'.cell? ⟨w.heap.size, 0, none⟩ = some (.int .i64 b) ∧ w'.cell? ⟨w.heap.size, 1, none⟩ = some (.int .i64 e)) (first | exact x5 | exact x4 | exact x3 | exact x0) (first
              | (go_at_call 123; refine (i4 _ B2.out.drew).mono ?_; rintro r w3 ⟨v3, rfl, G3⟩; have b3 := drewBelow8 G3.below; have B3 := hid (B2.out.trans (b3.mono B2.out.size)); have S3 := hid (S2.out.below b3); have x3 := And.intro S3.out.c0 S3.out.c1; have i5' := i5 _ _ G3.own; obtain ⟨a3, m3, k3, rfl⟩ := ownM_sl G3.own; clear G3 b3)
              | (go_at_call 122; refine i5'.mono ?_; rintro r w4 ⟨v4, rfl, G4⟩; have b4 := G4.below; have B4 := hid (B3.out.trans (b4.mono B3.out.size)); have S4 := hid (S3.out.below b4); have x4 := And.intro S4.out.c0 S4.out.c1; have i6' := i6 _ _ G4.own B4.out; obtain ⟨a4, m4, k4, rfl⟩ := ownM_sl G4.own; clear G4 b4)
              | (go_at_call 121; refine i6'.mono ?_; rintro r w5 ⟨rfl, b5⟩; have B5 := hid (B4.out.trans (b5.mono B4.out.size)); have S5 := hid (S4.out.below b5); have x5 := And.intro S5.out.c0 S5.out.c1; clear b5))
            go_wp2
            go_ret2
            exact ⟨by rw [hAA.out]; rfl, B5.out⟩
          | some s =>
            simp only [foV] at i6
            go_enter Tryz.func103, Tryz.ntmps103
            go_wp2_with (first
              | (go_at_call 118; refine (i1 _).mono ?_; rintro r w' ⟨rfl, rfl⟩)
              | (go_at_call 119; refine i2.mono ?_; rintro r w' ⟨rfl, rfl⟩)
              | (go_at_call 120; refine (i3 _).mono ?_; rintro r w2 ⟨rfl, hw2⟩; have S2 := hid (S0.out.below hw2); have B2 := hid (B0.out.trans (hw2.mono B0.out.size)); clear hw2))
            have x0 := And.intro S2.out.c0 S2.out.c1
            go_region_held3 (fun w' => w'.cell? ⟨w.heap.size, 0, none⟩ = some (.int .i64 b) ∧ w'.cell? ⟨w.heap.size, 1, none⟩ = some (.int .i64 e)) (first | exact x5 | exact x4 | exact x3 | exact x0) (first
              | (go_at_call 123; refine (i4 _ B2.out.drew).mono ?_; rintro r w3 ⟨v3, rfl, G3⟩; have b3 := drewBelow8 G3.below; have B3 := hid (B2.out.trans (b3.mono B2.out.size)); have S3 := hid (S2.out.below b3); have x3 := And.intro S3.out.c0 S3.out.c1; have i5' := i5 _ _ G3.own; obtain ⟨a3, m3, k3, rfl⟩ := ownM_sl G3.own; clear G3 b3)
              | (go_at_call 122; refine i5'.mono ?_; rintro r w4 ⟨v4, rfl, G4⟩; have b4 := G4.below; have B4 := hid (B3.out.trans (b4.mono B3.out.size)); have S4 := hid (S3.out.below b4); have x4 := And.intro S4.out.c0 S4.out.c1; have i6' := i6 _ _ G4.own B4.out; obtain ⟨a4, m4, k4, rfl⟩ := ownM_sl G4.own; clear G4 b4)
              | (go_at_call 121; refine i6'.mono ?_; rintro r w5 ⟨rfl, b5⟩; have B5 := hid (B4.out.trans (b5.mono B4.out.size)); have S5 := hid (S4.out.below b5); have x5 := And.intro S5.out.c0 S5.out.c1; clear b5))
            go_wp2
            go_ret2
            exact ⟨by rw [hAA.out]; rfl, B5.out⟩
        · have h4 : insB n b e = false := by simpa using h4
          rw [h4] at i3
          have hAA : Hid (A = (⟨#[]⟩, 80)) := by
            unfold Hid
            rw [← hA.out]
            unfold foldA
            rw [if_pos h1, if_pos h2, if_pos h3, if_neg (by rw [h4]; simp)]
          rw [← h2.1] at i2 ⊢
          have q0 : ¬ (4096 : Int) < (K.length : Int) := by omega
          generalize K.length = m at *
          clear hK hH hH0 T h2 h3 h4 h1 hA
          go_enter Tryz.func103, Tryz.ntmps103
          go_wp2_with (first
            | (go_at_call 118; refine (i1 _).mono ?_; rintro r w' ⟨rfl, rfl⟩)
            | (go_at_call 119; refine i2.mono ?_; rintro r w' ⟨rfl, rfl⟩)
            | (go_at_call 120; refine (i3 _).mono ?_; rintro r w2 ⟨rfl, hw2⟩; have B2 := hid (B0.out.trans (hw2.mono B0.out.size)); clear hw2))
          go_ret2
          exact ⟨by rw [hAA.out]; rfl, B2.out⟩
      · have h3 : hsB8 H = false := by simpa using h3
        have i2 := areHashes8_is H false h3 ah ch _ hhl hH0
        have hAA : Hid (A = (⟨#[]⟩, 1)) := by
          unfold Hid
          rw [← hA.out]
          unfold foldA
          rw [if_pos h1, if_pos h2, if_neg (by rw [h3]; simp)]
        rw [← h2.1] at i2 ⊢
        have q0 : ¬ (4096 : Int) < (K.length : Int) := by omega
        generalize K.length = m at *
        clear hK hH hH0 T h2 h3 h1 hA
        go_enter Tryz.func103, Tryz.ntmps103
        go_wp2_with (first
          | (go_at_call 118; refine (i1 _).mono ?_; rintro r w' ⟨rfl, rfl⟩)
          | (go_at_call 119; refine i2.mono ?_; rintro r w' ⟨rfl, rfl⟩))
        go_ret2
        exact ⟨by rw [hAA.out]; rfl, B0.out⟩
    · have hAA : Hid (A = (⟨#[]⟩, 83)) := by
        unfold Hid
        rw [← hA.out]
        unfold foldA
        rw [if_pos h1, if_neg h2]
      clear hK hH T h1 hA
      generalize K.length = m at *
      generalize H.length = k at *
      by_cases h5 : m = k
      · subst h5
        have q0 : (4096 : Int) < (m : Int) := by omega
        clear h2
        go_enter Tryz.func103, Tryz.ntmps103
        go_wp2_with (go_at_call 118; refine (i1 _).mono ?_; rintro r w' ⟨rfl, rfl⟩)
        go_ret2
        exact ⟨by rw [hAA.out]; rfl, B0.out⟩
      · have q0 : ((m : Int) != (k : Int)) = true := by simp; omega
        have q1 : ((m : Int) == (k : Int)) = false := by simp; omega
        clear h2
        go_enter Tryz.func103, Tryz.ntmps103
        go_wp2_with (go_at_call 118; refine (i1 _).mono ?_; rintro r w' ⟨rfl, rfl⟩)
        go_ret2
        exact ⟨by rw [hAA.out]; rfl, B0.out⟩
  · have i1 := fun w' => isSize_is n false (by simpa using h1) w'
    have hAA : Hid (A = (⟨#[]⟩, 81)) := by
      unfold Hid
      rw [← hA.out]
      unfold foldA
      rw [if_neg h1]
    clear hK hH T h1 hA
    generalize K.length = m at *
    generalize H.length = k at *
    go_enter Tryz.func103, Tryz.ntmps103
    go_wp2_with (go_at_call 118; refine (i1 _).mono ?_; rintro r w' ⟨rfl, rfl⟩)
    go_ret2
    exact ⟨by rw [hAA.out]; rfl, B0.out⟩
end Go.Proofs.YtjcapdkibbjmiaaGreatDoor

namespace Go.Proofs.YtjcapdkibbjmiaaGreatDoor
open Go.RowKit Go.Shelf
def fdF (K : List Sub) (b e : Int) : Option Sub := K.find? (fun q => decide (q.1 = (b, e)))
def fdB : Nat → Nat → Nat → List Sub → Bool
  | 0, _, _, _ => false
  | f + 1, b, n, K => if (fdF K (b : Int) ((b + n : Nat) : Int)).isSome then true else
      if n < 2 ∨ (witS (b : Int) ((b + n : Nat) : Int) K).length = 0 then false else
      fdB f b (Tree.sp n) K && fdB f (b + Tree.sp n) (n - Tree.sp n) K
def fdH : Nat → Nat → Nat → List Sub → ByteArray
  | 0, _, _, _ => ⟨#[]⟩
  | f + 1, b, n, K => match fdF K (b : Int) ((b + n : Nat) : Int) with
    | some q => q.2
    | none => ⟨(Tree.nd (fdH f b (Tree.sp n) K).data.toList (fdH f (b + Tree.sp n) (n - Tree.sp n) K).data.toList).toArray⟩
theorem hasI_mono {b e b' e' x y : Int} (h1 : b' ≤ b) (h2 : e ≤ e') (h : hasI b e x y = true) : hasI b' e' x y = true := by
  unfold hasI at h ⊢
  simp only [decide_eq_true_eq] at h ⊢
  omega
theorem witS_wit {b e b' e' : Int} (h1 : b' ≤ b) (h2 : e ≤ e') (K : List Sub) : witS b e (witS b' e' K) = witS b e K := by
  unfold witS
  rw [List.filter_filter]
  congr 1
  funext q
  cases h : hasI b e q.1.1 q.1.2 with
  | false => simp
  | true => rw [hasI_mono h1 h2 h]; rfl
theorem fdF_wit {b e : Int} (h : b < e) (K : List Sub) : fdF (witS b e K) b e = fdF K b e := by
  unfold fdF witS
  rw [List.find?_filter]
  congr 1
  funext q
  by_cases hq : q.1 = (b, e)
  · have : hasI b e q.1.1 q.1.2 = true := by
      rw [hq]; unfold hasI; simp; omega
    simp [this]
  · simp [hq]
theorem fdF_none {b e : Int} (h : b < e) {K : List Sub} (h0 : (witS b e K).length = 0) : fdF K b e = none := by
  rw [← fdF_wit h, List.length_eq_zero_iff.1 h0]; rfl
theorem fdB_none {f b n : Nat} {K : List Sub} (hn : 1 ≤ n) (h0 : (witS (b : Int) ((b + n : Nat) : Int) K).length = 0) : fdB f b n K = false := by
  cases f with
  | zero => rfl
  | succ f => rw [fdB, fdF_none (by omega) h0, if_neg (by simp), if_pos (.inr h0)]
theorem foS_fd : ∀ (f b n : Nat) (K : List Sub), n ≤ f → 1 ≤ n → foS f b n (witS (b : Int) ((b + n : Nat) : Int) K) = if fdB f b n K = true then some (fdH f b n K) else none
  | 0, b, n, K, h, h1 => by omega
  | f + 1, b, n, K, h, h1 => by
    have e1 := fdF_wit (b := (b : Int)) (e := ((b + n : Nat) : Int)) (by omega) K
    rw [foS, fdB, fdH]
    unfold fdF at e1 ⊢
    rw [e1]
    cases hc : K.find? (fun q => decide (q.1 = ((b : Int), ((b + n : Nat) : Int)))) with
    | some q => simp
    | none =>
      simp only [Option.isSome_none, Bool.false_eq_true, if_false]
      by_cases h2 : n < 2
      · simp [h2]
      · have s1 := Tree.sp_lt (n := n) (by omega)
        have s2 := Tree.sp_pos (n := n) (by omega)
        rw [if_neg h2, witS_wit (by omega) (by omega), witS_wit (by omega) (by omega)]
        have eR : b + Tree.sp n + (n - Tree.sp n) = b + n := by omega
        have iL := foS_fd f b (Tree.sp n) K (by omega) (by omega)
        have iR := foS_fd f (b + Tree.sp n) (n - Tree.sp n) K (by omega) (by omega)
        rw [eR] at iR
        by_cases hl : (witS (b : Int) ((b + Tree.sp n : Nat) : Int) K).length = 0
        · rw [if_pos (.inl hl), fdB_none (f := f) (b := b) (n := Tree.sp n) (by omega) hl, Bool.false_and]
          by_cases hw : n < 2 ∨ (witS (b : Int) ((b + n : Nat) : Int) K).length = 0
          · rw [if_pos hw]; simp
          · rw [if_neg hw]; simp
        · by_cases hr : (witS ((b + Tree.sp n : Nat) : Int) ((b + n : Nat) : Int) K).length = 0
          · rw [if_pos (.inr hr), fdB_none (f := f) (b := b + Tree.sp n) (n := n - Tree.sp n) (by omega) (by rw [eR]; exact hr), Bool.and_false]
            by_cases hw : n < 2 ∨ (witS (b : Int) ((b + n : Nat) : Int) K).length = 0
            · rw [if_pos hw]; simp
            · rw [if_neg hw]; simp
          · have hw : ¬ (n < 2 ∨ (witS (b : Int) ((b + n : Nat) : Int) K).length = 0) := by
              rintro (hw | hw)
              · exact h2 hw
              · apply hl
                have := witS_len (b : Int) ((b + Tree.sp n : Nat) : Int) (witS (b : Int) ((b + n : Nat) : Int) K)
                rw [witS_wit (by omega) (by omega)] at this
                omega
            rw [if_neg (by omega), if_neg hw, iL, iR]
            cases hA : fdB f b (Tree.sp n) K with
            | false => simp
            | true =>
              cases hB : fdB f (b + Tree.sp n) (n - Tree.sp n) K with
              | false => simp
              | true => simp
end Go.Proofs.YtjcapdkibbjmiaaGreatDoor

namespace Go.Proofs.YtjcapdkibbjmiaaGreatDoor
open Go.RowKit Go.Shelf
namespace Chn
abbrev pmC (L : List (Nat × Nat)) : List (Int × Int) := L.map fun s => ((s.1 : Int), (s.2 : Int))
theorem prd_find (b e : Nat) : ∀ (K : List (Nat × Nat)) (H : List (List UInt8)), K.length = H.length → fdF (prd (pmC K) (bas H)) (b : Int) (e : Int) = if (b, e) ∈ K then some (((b : Int), (e : Int)), ⟨(Tree.hashAt K H (b, e)).toArray⟩) else none
  | [], [], _ => by simp [fdF, prd, bas]
  | [], _ :: _, h => by cases h
  | _ :: _, [], h => by cases h
  | k :: K, x :: H, h => by
    have ih := prd_find b e K H (by simpa using h)
    have e1 : prd (pmC (k :: K)) (bas (x :: H)) = (((k.1 : Int), (k.2 : Int)), ⟨x.toArray⟩) :: prd (pmC K) (bas H) := rfl
    unfold fdF at ih ⊢
    rw [e1, List.find?_cons, Tree.hashAt]
    by_cases hk : k = (b, e)
    · subst hk
      simp
    · have hne : decide ((((k.1 : Int), (k.2 : Int)), (⟨x.toArray⟩ : ByteArray)).1 = ((b : Int), (e : Int))) = false := by
        rw [decide_eq_false_iff_not]
        intro q
        apply hk
        have q1 : (k.1 : Int) = (b : Int) := congrArg Prod.fst q
        have q2 : (k.2 : Int) = (e : Int) := congrArg Prod.snd q
        exact Prod.ext (by show k.1 = b; omega) (by show k.2 = e; omega)
      rw [hne, ih, if_neg hk]
      have hm : (b, e) ∈ k :: K ↔ (b, e) ∈ K := by
        rw [List.mem_cons]
        exact ⟨fun h => h.resolve_left fun q => hk q.symm, .inr⟩
      by_cases hK : (b, e) ∈ K
      · rw [if_pos hK, if_pos (hm.2 hK)]
      · rw [if_neg hK, if_neg (fun q => hK (hm.1 q))]
theorem prd_in {K : List (Nat × Nat)} {H : List (List UInt8)} (hl : K.length = H.length) {s : Nat × Nat} (hs : s ∈ K) : ∃ x, (((s.1 : Int), (s.2 : Int)), x) ∈ prd (pmC K) (bas H) := by
  have := prd_find s.1 s.2 K H hl
  rw [if_pos hs] at this
  exact ⟨_, List.mem_of_find?_eq_some this⟩
theorem fdB_can {K : List (Nat × Nat)} {H : List (List UInt8)} (hl : K.length = H.length) : ∀ (f b n : Nat), n ≤ f → 1 ≤ n → fdB f b n (prd (pmC K) (bas H)) = Tree.canF f b n K
  | 0, b, n, h, h1 => by omega
  | f + 1, b, n, h, h1 => by
    rw [fdB, Tree.canF, prd_find b (b + n) K H hl]
    by_cases hk : (b, b + n) ∈ K
    · rw [if_pos hk, if_pos hk]; simp
    · rw [if_neg hk, if_neg hk, if_neg (by simp)]
      by_cases h2 : n < 2
      · rw [if_pos (.inl h2), if_pos h2]
      · have s1 := Tree.sp_lt (n := n) (by omega)
        have s2 := Tree.sp_pos (n := n) (by omega)
        rw [if_neg h2, fdB_can hl f b (Tree.sp n) (by omega) (by omega), fdB_can hl f (b + Tree.sp n) (n - Tree.sp n) (by omega) (by omega)]
        split
        · rename_i hw
          have hw := hw.resolve_left h2
          cases hc : Tree.canF f b (Tree.sp n) K with
          | false => rfl
          | true =>
            obtain ⟨s, hs, a1, a2, a3⟩ := Tree.can_within K f b (Tree.sp n) (by omega) (by omega) hc
            obtain ⟨x, hx⟩ := prd_in hl hs
            have : (((s.1 : Int), (s.2 : Int)), x) ∈ witS (b : Int) ((b + n : Nat) : Int) (prd (pmC K) (bas H)) := by
              unfold witS
              rw [List.mem_filter]
              refine ⟨hx, ?_⟩
              unfold hasI
              rw [decide_eq_true_eq]
              show (b : Int) ≤ (s.1 : Int) ∧ (s.1 : Int) < (s.2 : Int) ∧ (s.2 : Int) ≤ ((b + n : Nat) : Int)
              omega
            rw [List.length_eq_zero_iff.1 hw] at this
            cases this
        · rfl
theorem fdH_fld {K : List (Nat × Nat)} {H : List (List UInt8)} (hl : K.length = H.length) : ∀ (f b n : Nat), n ≤ f → 1 ≤ n → Tree.canF f b n K = true → fdH f b n (prd (pmC K) (bas H)) = ⟨(Tree.fldF f b n K H).toArray⟩
  | 0, b, n, h, h1, _ => by omega
  | f + 1, b, n, h, h1, hc => by
    rw [Tree.canF] at hc
    rw [fdH, Tree.fldF, prd_find b (b + n) K H hl]
    by_cases hk : (b, b + n) ∈ K
    · rw [if_pos hk, if_pos hk]
    · rw [if_neg hk] at hc
      by_cases h2 : n < 2
      · rw [if_pos h2] at hc; cases hc
      · have s1 := Tree.sp_lt (n := n) (by omega)
        have s2 := Tree.sp_pos (n := n) (by omega)
        rw [if_neg h2, Bool.and_eq_true] at hc
        rw [if_neg hk, if_neg hk]
        simp only []
        rw [fdH_fld hl f b (Tree.sp n) (by omega) (by omega) hc.1, fdH_fld hl f (b + Tree.sp n) (n - Tree.sp n) (by omega) (by omega) hc.2]
theorem foS_can {K : List (Nat × Nat)} {H : List (List UInt8)} (hl : K.length = H.length) {x y : Nat} (hxy : x < y) : foS (y - x) x (y - x) (witS (x : Int) (y : Int) (prd (pmC K) (bas H))) = if can K (x, y) = true then some ⟨(fld K H (x, y)).toArray⟩ else none := by
  have e := foS_fd (y - x) x (y - x) (prd (pmC K) (bas H)) (Nat.le_refl _) (by omega)
  rw [show x + (y - x) = y by omega, fdB_can hl _ _ _ (Nat.le_refl _) (by omega)] at e
  rw [e]
  unfold can fld
  dsimp only
  by_cases hc : Tree.canF (y - x) x (y - x) K = true
  · rw [if_pos hc, if_pos hc, fdH_fld hl _ _ _ (Nat.le_refl _) (by omega) hc]
  · rw [if_neg hc, if_neg hc]
theorem insB_C {n b e : Nat} (hn : 1 ≤ n) (hn2 : n ≤ 1099511627776) (h : Tree.insF n 0 n b e = true) : insB n b e = true := by
  have := Tree.insF_in _ _ _ _ _ h hn
  unfold insB
  rw [Bool.and_eq_true]
  exact ⟨decide_eq_true (by omega), by simpa using h⟩
theorem foldA_can {n : Nat} {K : List (Nat × Nat)} {H : List (List UInt8)} {x y : Nat} (hn : 1 ≤ n) (hn2 : n ≤ 1099511627776) (hi : Tree.insF n 0 n x y = true) (hl : K.length = H.length) (h4 : K.length ≤ 4096) (hh : hsB8 H = true) (hc : can K (x, y) = true) :
    foldA (n : Int) (pmC K) H (x : Int) (y : Int) = (⟨(fld K H (x, y)).toArray⟩, 0) := by
  have hin := Tree.insF_in _ _ _ _ _ hi hn
  have e := foS_can hl (x := x) (y := y) (by omega)
  rw [if_pos hc] at e
  unfold foldA
  rw [if_pos (by omega), if_pos (by simp [pmC]; omega), if_pos hh, if_pos (insB_C hn hn2 hi), Int.toNat_natCast, Int.toNat_natCast, e]
end Chn
end Go.Proofs.YtjcapdkibbjmiaaGreatDoor

namespace Go.Proofs.YtjcapdkibbjmiaaGreatDoor
open Go.RowKit
theorem svs_one' {L : List (List UInt8)} {v : Value} (h : v ∈ svs L) : v.oneCell' = true := by
  simp only [svs, List.mem_map] at h
  obtain ⟨n, _, rfl⟩ := h
  rfl
def Row (w : World) (H : Nat) (L : List (List UInt8)) : Prop := w.heap[H]? = some (.cells (svs L).toArray 9 (0, 0))
theorem Row.lt {w : World} {H : Nat} {L : List (List UInt8)} (h : Row w H L) : H < w.heap.size := lt_of_heap h
theorem Row.cell {w : World} {H : Nat} {L : List (List UInt8)} (h : Row w H L) {j : Nat} {p : List UInt8} (hp : L[j]? = some p) : w.cell? ⟨H, j, none⟩ = some (sv p) := by
  rw [cell_of_row _ _ _ _ _ _ h]; simp [svs, hp]
theorem Row.at {w : World} {H : Nat} {L : List (List UInt8)} (h : Row w H L) : At w (some ⟨H, 0, none⟩) L := fun j p hp => ⟨_, rfl, h.lt, by rw [Addr.add_mid, Nat.zero_add]; exact h.cell hp⟩
theorem Row.free {w : World} {H : Nat} {L : List (List UInt8)} (h : Row w H L) {j : Nat} (hj : j < L.length) : w.frozen? ⟨H, j, none⟩ = false := by
  have := (there_of_row h 0 L.length (by simp [svs])) j hj
  rw [Nat.zero_add] at this
  exact this.2
theorem Row.below {w w' : World} {H B : Nat} {L : List (List UInt8)} (h : Row w H L) (hb : Below B w w') (hB : H < B) : Row w' H L := by
  unfold Row; rw [hb.block H hB]; exact h
theorem Row.set {w : World} {H : Nat} {L : List (List UInt8)} (h : Row w H L) (k : Nat) (x : List UInt8) : Row (w.setCell ⟨H, k, none⟩ (sv x)) H (L.set k x) := by
  have e := setCell_eq_setRow w H k (svs L).toArray 9 (0, 0) (sv x) h
  unfold Row
  rw [e, setRow_heap _ _ _ _ _ _ h]
  refine congrArg (fun A => some (Obj.cells A 9 (0, 0))) ?_
  simp [svs, List.map_set]
theorem infoS1 : (Tryz.prog.info? 9).map (·.size) = some 1 := by kernel_rfl
theorem make_texts (w : World) (c : Nat) (hc : c ≤ 8796093021960) :
    (Instr.makeSlice 22 (.int .i64 (c : Int)) (.int .i64 (c : Int))).run Tryz.prog w = .ok (.slice (some ⟨w.heap.size, 0, none⟩) c c) (w.alloc (.cells (svs (List.replicate c [])).toArray 9)) := by
  obtain ⟨i0, hi, hz0, hz1, hz2⟩ := info_parts infoS
  have h := run_make (P := Tryz.prog) w 22 9 i0 (.string ⟨#[]⟩) Tryz.underlying22 hi hz0 .i64 .i64 (c : Int) (c : Int) (by omega) (by omega) (by rw [hz2]; omega) (by omega)
  rw [Int.toNat_natCast, hz1, Nat.mul_one] at h
  have e : madeCells (Value.string ⟨#[]⟩).cells c = (svs (List.replicate c [])).toArray := by
    apply Array.ext'
    rw [show (madeCells (Value.string ⟨#[]⟩).cells c).toList = List.replicate c (.string ⟨#[]⟩) from toList_madeCells_one _ _]
    simp [svs]; exact .inr rfl
  rw [e] at h
  exact h
theorem copy_texts (w : World) (H : Nat) (a : Option Addr) (cap' : Nat) (ps rest : List (List UInt8)) (hs : At w a ps) (hR : Row w H (List.replicate ps.length [] ++ rest)) (m cap : Nat) (hm : m = ps.length + rest.length) :
    ∃ w', (Builtin.copy_ #[22, 22] 3 #[.slice (some ⟨H, 0, none⟩) m cap, .slice a ps.length cap']).run Tryz.prog w = .ok (goInt ps.length) w' ∧ Row w' H (ps ++ rest) ∧ But H w w' := by
  by_cases h0 : ps.length = 0
  · obtain rfl : ps = [] := List.length_eq_zero_iff.1 h0
    exact ⟨w, run_copy_none (P := Tryz.prog) w _ _ _ 9 _ _ _ _ _ _ Tryz.underlying22 infoS1 (by simp), by simpa using hR, But.refl _ _⟩
  · obtain ⟨x, rfl, hx, _⟩ := hs 0 _ (List.getElem?_eq_getElem (by omega))
    have h := run_copy_row (P := Tryz.prog) w 22 22 3 9 H 0 m cap x ps.length cap' _ 9 (svs ps) Tryz.underlying22 infoS1 hR
      (by rw [svs_length]; exact (Nat.min_eq_left (by omega)).symm) (fun j u hu => by
        simp only [svs, List.getElem?_map, Option.map_eq_some_iff] at hu
        obtain ⟨p, hp, rfl⟩ := hu
        obtain ⟨y, hy, _, hc⟩ := hs j p hp
        cases hy
        exact hc) (by simp [svs]) (fun u hu => svs_one' hu)
    refine ⟨_, h.trans (by rw [svs_length]), ?_, (But.refl _ _).setRow _⟩
    unfold Row
    rw [setRow_heap _ _ _ _ _ _ hR]
    refine congrArg (fun A => some (Obj.cells A 9 (0, 0))) ?_
    simp [svs]
end Go.Proofs.YtjcapdkibbjmiaaGreatDoor
