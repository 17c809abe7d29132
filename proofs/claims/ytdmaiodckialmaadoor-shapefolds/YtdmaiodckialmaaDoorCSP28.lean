import Derived.Test.YtdmaiodckialmaaDoorCSP24
import Derived.Test.YtdmaiodckialmaaDoorCO48
import Derived.Test.YtdmaiodckialmaaDoorCR4
namespace Go.Proofs.YtdmaiodckialmaaDoor
open Go.RowKit Go.Shelf
/-- H5 -/
def foldA (n : Int) (K : List (Int × Int)) (H : List (List UInt8)) (b e : Int) : ByteArray × Int :=
  if 1 ≤ n ∧ n ≤ 1099511627776 then
    if K.length = H.length ∧ K.length ≤ 4096 then
      if hsB8 H = true then
        if insB n b e = true then
          match foS (e.toNat - b.toNat) b.toNat (e.toNat - b.toNat) (witS b e (prd K (bas H))) with
          | none => (⟨#[]⟩, 82)
          | some s => (s, 0)
        else (⟨#[]⟩, 80)
      else (⟨#[]⟩, 1)
    else (⟨#[]⟩, 83)
  else (⟨#[]⟩, 81)
theorem insB_facts {n b e : Int} (h : insB n b e = true) : 1 ≤ n ∧ n ≤ 1099511627776 ∧ 0 ≤ b ∧ b < e ∧ e ≤ n := by
  unfold insB at h
  rw [Bool.and_eq_true, decide_eq_true_eq] at h
  obtain ⟨h1, h2⟩ := h
  have := Tree.insF_in _ _ _ _ _ h2 (by omega)
  omega
set_option maxRecDepth 100000 in
set_option maxHeartbeats 8000000 in
theorem foldF_any (n : Int) (K : List (Int × Int)) (H : List (List UInt8)) (b e : Int) (ak ah : Option Addr) (ck ch : Nat) (w : World) (hkl : K.length ≤ 9223372036854775807) (hhl : H.length ≤ 9223372036854775807) (hK : AtP w ak K) (hH : At w ah H) (T : Tabs w) :
    Calls Tryd.prog 18 #[.int .i64 n, .slice ak K.length ck, .slice ah H.length ch, sg b e] w fun r w' => r = .returned (.tuple #[.string (foldA n K H b e).1, .int .i64 (foldA n K H b e).2]) ∧ Below w.heap.size w w' := by
  have S0 := hid (SpI.new w b e)
  have B0 := hid ((Below.refl _ w).alloc (Nat.le_refl _) (.cells #[.int .i64 b, .int .i64 e] 25))
  have c0 := S0.out.c0
  have c1 := S0.out.c1
  obtain ⟨A, hA⟩ : ∃ A, Hid (foldA n K H b e = A) := ⟨_, rfl⟩
  rw [hA.out]
  by_cases h1 : 1 ≤ n ∧ n ≤ 1099511627776
  · have i1 := fun w' => isSize_is n true (by simpa using h1) w'
    by_cases h2 : K.length = H.length ∧ K.length ≤ 4096
    · have hH0 : At (w.alloc (.cells #[.int .i64 b, .int .i64 e] 25)) ah H := hH.below B0.out (Nat.le_refl _)
      by_cases h3 : hsB8 H = true
      · have i2 := areHashes8_is H true h3 ah ch _ hhl hH0
        have i3 := fun w' => inside_any n b e w'
        by_cases h4 : insB n b e = true
        · rw [h4] at i3
          have hf := insB_facts h4
          obtain ⟨b', hb'⟩ := Int.eq_ofNat_of_zero_le hf.2.2.1
          obtain ⟨e', he'⟩ := Int.eq_ofNat_of_zero_le (show 0 ≤ e by omega)
          have i4 := fun w' (hb : Below w.heap.size w w') => paired_any K H ak ah ck ch w' h2.1 h2.2 (hK.below hb (Nat.le_refl _)) (hH.below hb (Nat.le_refl _))
          obtain ⟨P, hP⟩ : ∃ P, Hid (prd K (bas H) = P) := ⟨_, rfl⟩
          have lP : Hid (P.length ≤ 4096) := by unfold Hid; rw [← hP.out, prd_len K (bas H) (by unfold bas; rw [List.length_map]; exact h2.1)]; exact h2.2
          rw [hP.out] at i4
          have i5 := fun v w' (ho : OwnS3 w' v P) => within_any b e P v w' ho (by have := lP.out; omega)
          obtain ⟨R, hR⟩ : ∃ R, Hid (witS b e P = R) := ⟨_, rfl⟩
          have lR : Hid (R.length ≤ 4096) := by unfold Hid; rw [← hR.out]; exact Nat.le_trans (witS_len b e P) lP.out
          rw [hR.out] at i5
          have i6 := fun v w' (ho : OwnS3 w' v R) (hb : Below w.heap.size w w') => fold8_any (e' - b') b' (e' - b') R v w' (Nat.le_refl _) (by omega) (by omega) ho lR.out (T.below hb T.lt)
          rw [show b' + (e' - b') = e' by omega, ← hb', ← he'] at i6
          have hAA : Hid (A = match foS (e' - b') b' (e' - b') R with
              | none => (⟨#[]⟩, 82)
              | some s => (s, 0)) := by
            unfold Hid
            rw [← hA.out]
            unfold foldA
            rw [if_pos h1, if_pos h2, if_pos h3, if_pos h4, hP.out, hR.out, hb', he', Int.toNat_natCast, Int.toNat_natCast]
          rw [← h2.1] at i2 i4 ⊢
          have q0 : ¬ (4096 : Int) < (K.length : Int) := by omega
          generalize K.length = m at *
          clear hK hH hH0 T h2 h3 h4 hf h1 hA
          obtain ⟨o, ho⟩ : ∃ o, Hid (foS (e' - b') b' (e' - b') R = o) := ⟨_, rfl⟩
          rw [ho.out] at i6
          unfold Hid at hAA
          rw [ho.out] at hAA
          have hAA := hid hAA
          clear hb' he'
          cases o with
          | none =>
            simp only [foV] at i6
            go_enter Tryd.func18, Tryd.ntmps18
            go_wp2_with (first
              | (go_at_call 26; refine (i1 _).mono ?_; rintro r w' ⟨rfl, rfl⟩)
              | (go_at_call 36; refine i2.mono ?_; rintro r w' ⟨rfl, rfl⟩)
              | (go_at_call 20; refine (i3 _).mono ?_; rintro r w2 ⟨rfl, hw2⟩; have S2 := hid (S0.out.below hw2); have B2 := hid (B0.out.trans (hw2.mono B0.out.size)); clear hw2))
            have x0 := And.intro S2.out.c0 S2.out.c1
            go_region_held3 (fun w' => w'.cell? ⟨w.heap.size, 0, none⟩ = some (.int .i64 b) ∧ w'.cell? ⟨w.heap.size, 1, none⟩ = some (.int .i64 e)) (first | exact x5 | exact x4 | exact x3 | exact x0) (first
              | (go_at_call 39; refine (i4 _ B2.out.drew).mono ?_; rintro r w3 ⟨v3, rfl, G3⟩; have b3 := drewBelow8 G3.below; have B3 := hid (B2.out.trans (b3.mono B2.out.size)); have S3 := hid (S2.out.below b3); have x3 := And.intro S3.out.c0 S3.out.c1; have i5' := i5 _ _ G3.own; obtain ⟨a3, m3, k3, rfl⟩ := ownM_sl G3.own; clear G3 b3)
              | (go_at_call 38; refine i5'.mono ?_; rintro r w4 ⟨v4, rfl, G4⟩; have b4 := G4.below; have B4 := hid (B3.out.trans (b4.mono B3.out.size)); have S4 := hid (S3.out.below b4); have x4 := And.intro S4.out.c0 S4.out.c1; have i6' := i6 _ _ G4.own B4.out; obtain ⟨a4, m4, k4, rfl⟩ := ownM_sl G4.own; clear G4 b4)
              | (go_at_call 37; refine i6'.mono ?_; rintro r w5 ⟨rfl, b5⟩; have B5 := hid (B4.out.trans (b5.mono B4.out.size)); have S5 := hid (S4.out.below b5); have x5 := And.intro S5.out.c0 S5.out.c1; clear b5))
            go_wp2
            go_ret2
            exact ⟨by rw [hAA.out]; rfl, B5.out⟩
          | some s =>
            simp only [foV] at i6
            go_enter Tryd.func18, Tryd.ntmps18
            go_wp2_with (first
              | (go_at_call 26; refine (i1 _).mono ?_; rintro r w' ⟨rfl, rfl⟩)
              | (go_at_call 36; refine i2.mono ?_; rintro r w' ⟨rfl, rfl⟩)
              | (go_at_call 20; refine (i3 _).mono ?_; rintro r w2 ⟨rfl, hw2⟩; have S2 := hid (S0.out.below hw2); have B2 := hid (B0.out.trans (hw2.mono B0.out.size)); clear hw2))
            have x0 := And.intro S2.out.c0 S2.out.c1
            go_region_held3 (fun w' => w'.cell? ⟨w.heap.size, 0, none⟩ = some (.int .i64 b) ∧ w'.cell? ⟨w.heap.size, 1, none⟩ = some (.int .i64 e)) (first | exact x5 | exact x4 | exact x3 | exact x0) (first
              | (go_at_call 39; refine (i4 _ B2.out.drew).mono ?_; rintro r w3 ⟨v3, rfl, G3⟩; have b3 := drewBelow8 G3.below; have B3 := hid (B2.out.trans (b3.mono B2.out.size)); have S3 := hid (S2.out.below b3); have x3 := And.intro S3.out.c0 S3.out.c1; have i5' := i5 _ _ G3.own; obtain ⟨a3, m3, k3, rfl⟩ := ownM_sl G3.own; clear G3 b3)
              | (go_at_call 38; refine i5'.mono ?_; rintro r w4 ⟨v4, rfl, G4⟩; have b4 := G4.below; have B4 := hid (B3.out.trans (b4.mono B3.out.size)); have S4 := hid (S3.out.below b4); have x4 := And.intro S4.out.c0 S4.out.c1; have i6' := i6 _ _ G4.own B4.out; obtain ⟨a4, m4, k4, rfl⟩ := ownM_sl G4.own; clear G4 b4)
              | (go_at_call 37; refine i6'.mono ?_; rintro r w5 ⟨rfl, b5⟩; have B5 := hid (B4.out.trans (b5.mono B4.out.size)); have S5 := hid (S4.out.below b5); have x5 := And.intro S5.out.c0 S5.out.c1; clear b5))
            go_wp2
            go_ret2
            exact ⟨by rw [hAA.out]; rfl, B5.out⟩
        · have h4 : insB n b e = false := by simpa using h4
          rw [h4] at i3
          have hAA : Hid (A = (⟨#[]⟩, 80)) := by
            unfold Hid
            rw [← hA.out]
            unfold foldA
            rw [if_pos h1, if_pos h2, if_pos h3, if_neg (by rw [h4]; simp)]
          rw [← h2.1] at i2 ⊢
          have q0 : ¬ (4096 : Int) < (K.length : Int) := by omega
          generalize K.length = m at *
          clear hK hH hH0 T h2 h3 h4 h1 hA
          go_enter Tryd.func18, Tryd.ntmps18
          go_wp2_with (first
            | (go_at_call 26; refine (i1 _).mono ?_; rintro r w' ⟨rfl, rfl⟩)
            | (go_at_call 36; refine i2.mono ?_; rintro r w' ⟨rfl, rfl⟩)
            | (go_at_call 20; refine (i3 _).mono ?_; rintro r w2 ⟨rfl, hw2⟩; have B2 := hid (B0.out.trans (hw2.mono B0.out.size)); clear hw2))
          go_ret2
          exact ⟨by rw [hAA.out]; rfl, B2.out⟩
      · have h3 : hsB8 H = false := by simpa using h3
        have i2 := areHashes8_is H false h3 ah ch _ hhl hH0
        have hAA : Hid (A = (⟨#[]⟩, 1)) := by
          unfold Hid
          rw [← hA.out]
          unfold foldA
          rw [if_pos h1, if_pos h2, if_neg (by rw [h3]; simp)]
        rw [← h2.1] at i2 ⊢
        have q0 : ¬ (4096 : Int) < (K.length : Int) := by omega
        generalize K.length = m at *
        clear hK hH hH0 T h2 h3 h1 hA
        go_enter Tryd.func18, Tryd.ntmps18
        go_wp2_with (first
          | (go_at_call 26; refine (i1 _).mono ?_; rintro r w' ⟨rfl, rfl⟩)
          | (go_at_call 36; refine i2.mono ?_; rintro r w' ⟨rfl, rfl⟩))
        go_ret2
        exact ⟨by rw [hAA.out]; rfl, B0.out⟩
    · have hAA : Hid (A = (⟨#[]⟩, 83)) := by
        unfold Hid
        rw [← hA.out]
        unfold foldA
        rw [if_pos h1, if_neg h2]
      clear hK hH T h1 hA
      generalize K.length = m at *
      generalize H.length = k at *
      by_cases h5 : m = k
      · subst h5
        have q0 : (4096 : Int) < (m : Int) := by omega
        clear h2
        go_enter Tryd.func18, Tryd.ntmps18
        go_wp2_with (go_at_call 26; refine (i1 _).mono ?_; rintro r w' ⟨rfl, rfl⟩)
        go_ret2
        exact ⟨by rw [hAA.out]; rfl, B0.out⟩
      · have q0 : ((m : Int) != (k : Int)) = true := by simp; omega
        have q1 : ((m : Int) == (k : Int)) = false := by simp; omega
        clear h2
        go_enter Tryd.func18, Tryd.ntmps18
        go_wp2_with (go_at_call 26; refine (i1 _).mono ?_; rintro r w' ⟨rfl, rfl⟩)
        go_ret2
        exact ⟨by rw [hAA.out]; rfl, B0.out⟩
  · have i1 := fun w' => isSize_is n false (by simpa using h1) w'
    have hAA : Hid (A = (⟨#[]⟩, 81)) := by
      unfold Hid
      rw [← hA.out]
      unfold foldA
      rw [if_neg h1]
    clear hK hH T h1 hA
    generalize K.length = m at *
    generalize H.length = k at *
    go_enter Tryd.func18, Tryd.ntmps18
    go_wp2_with (go_at_call 26; refine (i1 _).mono ?_; rintro r w' ⟨rfl, rfl⟩)
    go_ret2
    exact ⟨by rw [hAA.out]; rfl, B0.out⟩
end Go.Proofs.YtdmaiodckialmaaDoor

namespace Go.Proofs.YtdmaiodckialmaaDoor
open Go.RowKit Go.Shelf
/-- H5 as the document has it, over all that is known: is it one of known? -/
def fdF (K : List Sub) (b e : Int) : Option Sub := K.find? (fun q => decide (q.1 = (b, e)))
/-- can a span be folded? -/
def fdB : Nat → Nat → Nat → List Sub → Bool
  | 0, _, _, _ => false
  | f + 1, b, n, K => if (fdF K (b : Int) ((b + n : Nat) : Int)).isSome then true else
      if n < 2 ∨ (witS (b : Int) ((b + n : Nat) : Int) K).length = 0 then false else
      fdB f b (Tree.sp n) K && fdB f (b + Tree.sp n) (n - Tree.sp n) K
/-- its hash -/
def fdH : Nat → Nat → Nat → List Sub → ByteArray
  | 0, _, _, _ => ⟨#[]⟩
  | f + 1, b, n, K => match fdF K (b : Int) ((b + n : Nat) : Int) with
    | some q => q.2
    | none => ⟨(Tree.nd (fdH f b (Tree.sp n) K).data.toList (fdH f (b + Tree.sp n) (n - Tree.sp n) K).data.toList).toArray⟩
theorem hasI_mono {b e b' e' x y : Int} (h1 : b' ≤ b) (h2 : e ≤ e') (h : hasI b e x y = true) : hasI b' e' x y = true := by
  unfold hasI at h ⊢
  simp only [decide_eq_true_eq] at h ⊢
  omega
theorem witS_wit {b e b' e' : Int} (h1 : b' ≤ b) (h2 : e ≤ e') (K : List Sub) : witS b e (witS b' e' K) = witS b e K := by
  unfold witS
  rw [List.filter_filter]
  congr 1
  funext q
  cases h : hasI b e q.1.1 q.1.2 with
  | false => simp
  | true => rw [hasI_mono h1 h2 h]; rfl
theorem fdF_wit {b e : Int} (h : b < e) (K : List Sub) : fdF (witS b e K) b e = fdF K b e := by
  unfold fdF witS
  rw [List.find?_filter]
  congr 1
  funext q
  by_cases hq : q.1 = (b, e)
  · have : hasI b e q.1.1 q.1.2 = true := by
      rw [hq]; unfold hasI; simp; omega
    simp [this]
  · simp [hq]
theorem fdF_none {b e : Int} (h : b < e) {K : List Sub} (h0 : (witS b e K).length = 0) : fdF K b e = none := by
  rw [← fdF_wit h, List.length_eq_zero_iff.1 h0]; rfl
theorem fdB_none {f b n : Nat} {K : List Sub} (hn : 1 ≤ n) (h0 : (witS (b : Int) ((b + n : Nat) : Int) K).length = 0) : fdB f b n K = false := by
  cases f with
  | zero => rfl
  | succ f => rw [fdB, fdF_none (by omega) h0, if_neg (by simp), if_pos (.inr h0)]
/-- the program's way, which looks at what is within alone -/
theorem foS_fd : ∀ (f b n : Nat) (K : List Sub), n ≤ f → 1 ≤ n → foS f b n (witS (b : Int) ((b + n : Nat) : Int) K) = if fdB f b n K = true then some (fdH f b n K) else none
  | 0, b, n, K, h, h1 => by omega
  | f + 1, b, n, K, h, h1 => by
    have e1 := fdF_wit (b := (b : Int)) (e := ((b + n : Nat) : Int)) (by omega) K
    rw [foS, fdB, fdH]
    unfold fdF at e1 ⊢
    rw [e1]
    cases hc : K.find? (fun q => decide (q.1 = ((b : Int), ((b + n : Nat) : Int)))) with
    | some q => simp
    | none =>
      simp only [Option.isSome_none, Bool.false_eq_true, if_false]
      by_cases h2 : n < 2
      · simp [h2]
      · have s1 := Tree.sp_lt (n := n) (by omega)
        have s2 := Tree.sp_pos (n := n) (by omega)
        rw [if_neg h2, witS_wit (by omega) (by omega), witS_wit (by omega) (by omega)]
        have eR : b + Tree.sp n + (n - Tree.sp n) = b + n := by omega
        have iL := foS_fd f b (Tree.sp n) K (by omega) (by omega)
        have iR := foS_fd f (b + Tree.sp n) (n - Tree.sp n) K (by omega) (by omega)
        rw [eR] at iR
        by_cases hl : (witS (b : Int) ((b + Tree.sp n : Nat) : Int) K).length = 0
        · rw [if_pos (.inl hl), fdB_none (f := f) (b := b) (n := Tree.sp n) (by omega) hl, Bool.false_and]
          by_cases hw : n < 2 ∨ (witS (b : Int) ((b + n : Nat) : Int) K).length = 0
          · rw [if_pos hw]; simp
          · rw [if_neg hw]; simp
        · by_cases hr : (witS ((b + Tree.sp n : Nat) : Int) ((b + n : Nat) : Int) K).length = 0
          · rw [if_pos (.inr hr), fdB_none (f := f) (b := b + Tree.sp n) (n := n - Tree.sp n) (by omega) (by rw [eR]; exact hr), Bool.and_false]
            by_cases hw : n < 2 ∨ (witS (b : Int) ((b + n : Nat) : Int) K).length = 0
            · rw [if_pos hw]; simp
            · rw [if_neg hw]; simp
          · have hw : ¬ (n < 2 ∨ (witS (b : Int) ((b + n : Nat) : Int) K).length = 0) := by
              rintro (hw | hw)
              · exact h2 hw
              · apply hl
                have := witS_len (b : Int) ((b + Tree.sp n : Nat) : Int) (witS (b : Int) ((b + n : Nat) : Int) K)
                rw [witS_wit (by omega) (by omega)] at this
                omega
            rw [if_neg (by omega), if_neg hw, iL, iR]
            cases hA : fdB f b (Tree.sp n) K with
            | false => simp
            | true =>
              cases hB : fdB f (b + Tree.sp n) (n - Tree.sp n) K with
              | false => simp
              | true => simp
end Go.Proofs.YtdmaiodckialmaaDoor

namespace Go.Proofs.YtdmaiodckialmaaDoor
open Go.RowKit Go.Shelf
/-- the spans alone -/
def ksp (K : List Sub) : List (Int × Int) := K.map (·.1)
theorem ksp_get {K : List Sub} {j : Nat} : (ksp K)[j]? = (K[j]?).map (·.1) := by unfold ksp; rw [List.getElem?_map]
theorem first_at {α : Type} (p : α → Bool) : ∀ (l : List α), (∃ x ∈ l, p x = true) → ∃ (i : Nat) (x : α), l[i]? = some x ∧ p x = true ∧ ∀ (j : Nat) (y : α), j < i → l[j]? = some y → p y = false
  | [], h => by obtain ⟨x, hx, _⟩ := h; cases hx
  | a :: l, h => by
    cases ha : p a with
    | true => exact ⟨0, a, rfl, ha, fun j y hj => by omega⟩
    | false =>
      obtain ⟨x, hx, hp⟩ := h
      have hx' : x ∈ l := by
        rcases List.mem_cons.1 hx with rfl | hx
        · rw [ha] at hp; cases hp
        · exact hx
      obtain ⟨i, y, h1, h2, h3⟩ := first_at p l ⟨x, hx', hp⟩
      refine ⟨i + 1, y, h1, h2, fun j z hj hz => ?_⟩
      cases j with
      | zero => obtain rfl : a = z := Option.some.inj hz; exact ha
      | succ j => exact h3 j z (by omega) hz
theorem fdF_no {K : List Sub} {b e : Int} (h : fdF K b e = none) (j : Nat) : (ksp K)[j]? ≠ some (b, e) := fun he => by
  rw [ksp_get] at he
  cases hj : K[j]? with
  | none => rw [hj] at he; cases he
  | some q =>
    rw [hj] at he
    unfold fdF at h
    rw [List.find?_eq_none] at h
    exact h q (List.mem_of_getElem? hj) (decide_eq_true (Option.some.inj he))
theorem find_first {α : Type} (p : α → Bool) : ∀ (l : List α) (i : Nat) (x : α), l[i]? = some x → p x = true → (∀ (j : Nat) (y : α), j < i → l[j]? = some y → p y = false) → l.find? p = some x
  | [], i, x, h, _, _ => by cases h
  | a :: l, 0, x, h, hp, _ => by
    obtain rfl : a = x := Option.some.inj h
    rw [List.find?_cons, hp]
  | a :: l, i + 1, x, h, hp, hl => by
    rw [List.find?_cons, hl 0 a (by omega) rfl]
    exact find_first p l i x h hp (fun j y hj hy => hl (j + 1) y (by omega) hy)
theorem fdF_at {K : List Sub} {b e : Int} {q : Sub} (h : fdF K b e = some q) : ∃ i : Nat, (ksp K)[i]? = some (b, e) ∧ K[i]? = some q ∧ ∀ j : Nat, j < i → (ksp K)[j]? ≠ some (b, e) := by
  have hq := List.find?_some h
  have hm := List.mem_of_find?_eq_some h
  obtain ⟨i, x, h1, h2, h3⟩ := first_at (fun q : Sub => decide (q.1 = (b, e))) K ⟨q, hm, hq⟩
  have hx : x = q := by
    have := find_first (fun q : Sub => decide (q.1 = (b, e))) K i x h1 h2 h3
    unfold fdF at h
    rw [h] at this
    exact (Option.some.inj this).symm
  subst hx
  refine ⟨i, by rw [ksp_get, h1]; exact congrArg some (of_decide_eq_true h2), h1, fun j hj he => ?_⟩
  rw [ksp_get] at he
  cases hk : K[j]? with
  | none => rw [hk] at he; cases he
  | some y =>
    rw [hk] at he
    have := h3 j y hj hk
    rw [decide_eq_true (Option.some.inj he : y.1 = (b, e))] at this
    cases this
theorem wit_no {K : List Sub} {b e : Int} (h : (witS b e K).length = 0) (j : Nat) (x y : Int) (hj : (ksp K)[j]? = some (x, y)) : hasI b e x y = false := by
  rw [ksp_get] at hj
  cases hk : K[j]? with
  | none => rw [hk] at hj; cases hj
  | some q =>
    rw [hk] at hj
    have e1 : q.1 = (x, y) := Option.some.inj hj
    cases hc : hasI b e x y with
    | false => rfl
    | true =>
      have : q ∈ witS b e K := by
        unfold witS
        rw [List.mem_filter]
        exact ⟨List.mem_of_getElem? hk, by rw [e1]; exact hc⟩
      rw [List.length_eq_zero_iff.1 h] at this
      cases this
theorem wit_at {K : List Sub} {b e : Int} (h : (witS b e K).length ≠ 0) : ∃ (i : Nat) (x y : Int), (ksp K)[i]? = some (x, y) ∧ hasI b e x y = true ∧ ∀ (j : Nat) (x' y' : Int), j < i → (ksp K)[j]? = some (x', y') → hasI b e x' y' = false := by
  obtain ⟨q, hq⟩ := List.exists_mem_of_length_pos (Nat.pos_of_ne_zero h)
  unfold witS at hq
  rw [List.mem_filter] at hq
  obtain ⟨i, x, h1, h2, h3⟩ := first_at (fun q : Sub => hasI b e q.1.1 q.1.2) K ⟨q, hq.1, hq.2⟩
  refine ⟨i, x.1.1, x.1.2, by rw [ksp_get, h1]; rfl, h2, fun j x' y' hj he => ?_⟩
  rw [ksp_get] at he
  cases hk : K[j]? with
  | none => rw [hk] at he; cases he
  | some z =>
    rw [hk] at he
    have e1 : z.1 = (x', y') := Option.some.inj he
    have := h3 j z hj hk
    rw [e1] at this
    exact this
end Go.Proofs.YtdmaiodckialmaaDoor

namespace Go.Proofs.YtdmaiodckialmaaDoor
open Go.RowKit Go.Shelf
set_option maxRecDepth 100000 in
set_option maxHeartbeats 4000000 in
theorem spans_yes (l : List (Int × Int)) (a1 a2 : Option Addr) (c1 c2 : Nat) (w : World) (hl : l.length ≤ 9223372036854775800) (h1 : AtP w a1 l) (h2 : AtP w a2 l) :
    Calls Tryd.prog 17 #[.slice a1 l.length c1, .slice a2 l.length c2] w fun r w' => r = .returned (.bool true) ∧ Below w.heap.size w w' := by
  obtain ⟨n, hn⟩ : ∃ n, Hid (l.length = n) := ⟨_, rfl⟩
  rw [hn.out] at hl ⊢
  have H1 := hid h1
  have H2 := hid h2
  clear h1 h2
  go_enter Tryd.func17, Tryd.ntmps17
  go_wp2
  go_loopw [5] (fun i wr => ∃ k : Nat, i = .int .i64 (k : Int) ∧ k ≤ n ∧ Hid (Below w.heap.size w wr)) (fun i _ => n - (intOf i).toNat)
  case atStart => exact ⟨0, rfl, Nat.zero_le _, Below.refl _ _⟩
  case round =>
    obtain ⟨k, rfl, hk, hB⟩ := hrel
    by_cases hkn : k < n
    · have b0 : (k : Int) < (n : Int) := by omega
      have b1 : (0 : Int) ≤ (k : Int) := by omega
      obtain ⟨x, y, hq⟩ : ∃ x y, l[k]? = some (x, y) := ⟨_, _, List.getElem?_eq_getElem (by have := hn.out; omega)⟩
      obtain ⟨g1, rfl, _, p0, p1⟩ := (H1.out.below hB.out (Nat.le_refl _)) k (x, y) hq
      obtain ⟨g2, rfl, _, q0, q1⟩ := (H2.out.below hB.out (Nat.le_refl _)) k (x, y) hq
      have p0 : wr.cell? ⟨g1, k * 2, none⟩ = some (.int .i64 x) := p0
      have p1 : wr.cell? ⟨g1, k * 2 + 1, none⟩ = some (.int .i64 y) := p1
      have q0 : wr.cell? ⟨g2, k * 2, none⟩ = some (.int .i64 x) := q0
      have q1 : wr.cell? ⟨g2, k * 2 + 1, none⟩ = some (.int .i64 y) := q1
      clear H1 H2 hq
      go_wp2
      go_quiet (fail)
      go_wp2
      exact ⟨⟨k + 1, by go_num, by omega, by first | exact hB | exact hid hB.out.drew | exact hid (below_drewN hB.out _)⟩, by simp [intOf]; omega⟩
    · obtain rfl : k = n := by omega
      have b0 : ¬ (k : Int) < (k : Int) := by omega
      go_wp2
      go_ret
      exact ⟨rfl, hB.out⟩
set_option maxRecDepth 100000 in
set_option maxHeartbeats 4000000 in
theorem nodes_yes (l : List (Int × Int)) (a1 a2 : Option Addr) (c1 c2 : Nat) (w : World) (hl : l.length ≤ 9223372036854775800) (h1 : AtP w a1 l) (h2 : AtP w a2 l) :
    Calls Tryd.prog 16 #[.slice a1 l.length c1, .slice a2 l.length c2] w fun r w' => r = .returned (.bool true) ∧ Below w.heap.size w w' := by
  obtain ⟨n, hn⟩ : ∃ n, Hid (l.length = n) := ⟨_, rfl⟩
  rw [hn.out] at hl ⊢
  have H1 := hid h1
  have H2 := hid h2
  clear h1 h2
  go_enter Tryd.func16, Tryd.ntmps16
  go_wp2
  go_loopw [5] (fun i wr => ∃ k : Nat, i = .int .i64 (k : Int) ∧ k ≤ n ∧ Hid (Below w.heap.size w wr)) (fun i _ => n - (intOf i).toNat)
  case atStart => exact ⟨0, rfl, Nat.zero_le _, Below.refl _ _⟩
  case round =>
    obtain ⟨k, rfl, hk, hB⟩ := hrel
    by_cases hkn : k < n
    · have b0 : (k : Int) < (n : Int) := by omega
      have b1 : (0 : Int) ≤ (k : Int) := by omega
      obtain ⟨x, y, hq⟩ : ∃ x y, l[k]? = some (x, y) := ⟨_, _, List.getElem?_eq_getElem (by have := hn.out; omega)⟩
      obtain ⟨g1, rfl, _, p0, p1⟩ := (H1.out.below hB.out (Nat.le_refl _)) k (x, y) hq
      obtain ⟨g2, rfl, _, q0, q1⟩ := (H2.out.below hB.out (Nat.le_refl _)) k (x, y) hq
      have p0 : wr.cell? ⟨g1, k * 2, none⟩ = some (.int .i64 x) := p0
      have p1 : wr.cell? ⟨g1, k * 2 + 1, none⟩ = some (.int .i64 y) := p1
      have q0 : wr.cell? ⟨g2, k * 2, none⟩ = some (.int .i64 x) := q0
      have q1 : wr.cell? ⟨g2, k * 2 + 1, none⟩ = some (.int .i64 y) := q1
      clear H1 H2 hq
      go_wp2
      go_quiet (fail)
      go_wp2
      exact ⟨⟨k + 1, by go_num, by omega, by first | exact hB | exact hid hB.out.drew | exact hid (below_drewN hB.out _)⟩, by simp [intOf]; omega⟩
    · obtain rfl : k = n := by omega
      have b0 : ¬ (k : Int) < (k : Int) := by omega
      go_wp2
      go_ret
      exact ⟨rfl, hB.out⟩
theorem AtP.lit (w : World) (l : List (Int × Int)) (t : TypeId) : AtP (w.alloc (.cells (prI l).toArray t)) (some ⟨w.heap.size, 0, none⟩) l := fun j q hq => by
  have h := prI_get hq
  refine ⟨w.heap.size, rfl, by rw [size_alloc]; omega, ?_, ?_⟩
  · rw [cell_of_row _ _ _ _ _ _ (heap_alloc_new w _)]; simpa using h.1
  · rw [cell_of_row _ _ _ _ _ _ (heap_alloc_new w _)]; simpa using h.2
theorem AtI.lit (w : World) (l : List Int) (t : TypeId) : AtI (w.alloc (.cells (l.map (Value.int .i64)).toArray t)) (some ⟨w.heap.size, 0, none⟩) l := fun j q hq => by
  refine ⟨⟨w.heap.size, 0, none⟩, rfl, by show w.heap.size < _; rw [size_alloc]; omega, ?_⟩
  rw [Addr.add_mid, cell_of_row _ _ _ _ _ _ (heap_alloc_new w _), Nat.zero_add]
  simp [hq]
set_option maxRecDepth 100000 in
theorem hash8_any (s : ByteArray) (hs : s.size ≤ 140737488355000) (w : World) : Calls Tryd.prog 9 #[.string s] w fun r w' => r = .returned (sv (Sha.sha s.data.toList)) ∧ Below w.heap.size w w' := by
  have i1 := fun w' => rsum_any s (by omega) w'
  obtain ⟨D, hD⟩ : ∃ D : ByteArray, Hid (sv (Sha.sha s.data.toList) = .string D) := ⟨_, rfl⟩
  rw [hD.out] at i1 ⊢
  go_enter Tryd.func9, Tryd.ntmps9
  go_wp2_with (go_at_call 23; refine (i1 _).mono ?_; rintro e w' ⟨rfl, hw⟩)
  go_ret
  exact ⟨rfl, hw⟩
end Go.Proofs.YtdmaiodckialmaaDoor

namespace Go.Proofs.YtdmaiodckialmaaDoor
open Go.RowKit Go.Shelf
theorem add_one8 (x : Addr) (a : Nat) : (x.add a).add 1 = x.add (a + 1) := by
  by_cases h : a = 0
  · subst h; simp [Addr.add]
  · simp [Addr.add, h, Nat.add_assoc]
/-- a list of pairs, wherever it lies -/
def AtQ (w : World) (a : Option Addr) (l : List (Int × Int)) : Prop := ∀ j q, l[j]? = some q → ∃ x : Addr, a = some x ∧ x.block < w.heap.size ∧ w.cell? (x.add (j * 2)) = some (.int .i64 q.1) ∧ w.cell? (x.add (j * 2 + 1)) = some (.int .i64 q.2)
theorem AtQ.below {w w' : World} {a : Option Addr} {l : List (Int × Int)} {B : Nat} (h : AtQ w a l) (hb : Below B w w') (hB : w.heap.size ≤ B) : AtQ w' a l := fun j q hq => by
  obtain ⟨x, e, h1, h2, h3⟩ := h j q hq
  exact ⟨x, e, by have := hb.size; omega, (hb.cell (by rw [addr_block]; omega)).trans h2, (hb.cell (by rw [addr_block]; omega)).trans h3⟩
theorem AtP.q {w : World} {a : Option Addr} {l : List (Int × Int)} (h : AtP w a l) : AtQ w a l := fun j q hq => by
  obtain ⟨g, e, h1, h2, h3⟩ := h j q hq
  have ea : ∀ n, (⟨g, 0, none⟩ : Addr).add n = ⟨g, n, none⟩ := fun n => by rw [Addr.add_mid, Nat.zero_add]
  exact ⟨⟨g, 0, none⟩, e, h1, by rw [ea]; exact h2, by rw [ea]; exact h3⟩
end Go.Proofs.YtdmaiodckialmaaDoor
