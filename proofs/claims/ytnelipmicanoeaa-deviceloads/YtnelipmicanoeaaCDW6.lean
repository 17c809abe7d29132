import Derived.Test.YtnelipmicanoeaaCDW5
namespace Go.Proofs.Ytnelipmicanoeaa
open Go.RowKit Go.Maps

def pgl (k : Nat) : List (List UInt8) := (List.range k).map fun i : Nat => pg (i : Int)
theorem pgl_len (k : Nat) : (pgl k).length = k := by simp [pgl]
theorem pgl_succ (k : Nat) : pgl (k + 1) = pgl k ++ [pg (k : Int)] := by rw [pgl, List.range_succ, List.map_append]; rfl
theorem pls_none (n : Nat) : pls n (fun _ => none) = [] := by simp [pls, pks]
theorem Own.set {w : World} {base g cap : Nat} {L : List (List UInt8)} {n : Nat} (h : Own w base (.slice (some ⟨g, 0, none⟩) n cap) (svs L)) (j : Nat) (hj : j < L.length) (s : List UInt8) :
    Own (w.setCell ⟨g, j, none⟩ (sv s)) base (.slice (some ⟨g, 0, none⟩) n cap) (svs (L.set j s)) ∧ base ≤ g ∧ g < w.heap.size ∧ (∃ y, w.cell? ⟨g, j, none⟩ = some y) ∧ w.frozen? ⟨g, j, none⟩ = false := by
  rcases h with ⟨h, _⟩ | ⟨g', cap', h, h1, h2, h3, h4, h5, h6⟩
  · cases h
  injection h with e1 e2 e3
  injection e1 with e1
  injection e1 with e1
  subst e1 e2 e3
  have ht := h5 j (by rw [svs_length] at h2; omega)
  rw [Nat.zero_add] at ht
  obtain ⟨y, hy⟩ := Option.isSome_iff_exists.1 ht.1
  have hsv : svs (L.set j s) = (svs L).set j (sv s) := by simp [svs, List.map_set]
  refine ⟨.inr ⟨g, cap, by rw [hsv, List.length_set], h1, by rw [hsv, List.length_set]; exact h2, h3, ?_, ?_, by simpa [World.setCell] using h6⟩, h1, h6, ⟨y, hy⟩, ht.2⟩
  · intro k u hk
    rw [hsv, List.getElem?_set] at hk
    rw [Nat.zero_add]
    split at hk
    · next e =>
      subst e
      split at hk
      · rw [World.cell?_setCell_same _ _ _ (by rw [hy]; try rfl)]; exact hk
      · cases hk
    · next e =>
      rw [World.cell?_setCell_other _ _ _ _ (by simp; try exact fun e' => e e'.symm)]
      have := h4 k u hk
      rwa [Nat.zero_add] at this
  · intro k hk
    have := h5 k hk
    rw [World.frozen?_setCell]
    refine ⟨?_, this.2⟩
    by_cases e : j = 0 + k
    · rw [← e, World.cell?_setCell_same _ _ _ (by rw [hy]; try rfl)]; rfl
    · rw [World.cell?_setCell_other _ _ _ _ (by simp; try exact fun e' => e (by omega))]; exact this.1
set_option maxRecDepth 100000 in
set_option maxHeartbeats 4000000 in
theorem loads_bad (P : Int) (hP : ¬ (4 ≤ P ∧ P ≤ 4096)) (n at_ : Int) (hn1 : -9223372036854775808 ≤ n) (hn2 : n ≤ 9223372036854775807) (ha1 : -9223372036854775808 ≤ at_) (ha2 : at_ ≤ 9223372036854775807) (s : ByteArray) (w : World) :
    Calls Try.prog 3 #[.int .i64 P, .int .i64 n, .int .i64 at_, .string s] w fun r w' => r = .returned (.bool true) ∧ Below w.heap.size w w' := by
  have k0 := pk_nonneg n 4098 (by omega)
  have k1 := pk_lt n 4098 (by omega)
  obtain ⟨K, hK⟩ : ∃ K : Nat, pk n 4098 = (K : Int) := ⟨(pk n 4098).toNat, by omega⟩
  have i0 : ∀ w, Calls Try.prog 9 #[.int .i64 n, .int .i64 4098] w fun e w' => e = .returned (.int .i64 (K : Int)) ∧ w' = w := fun w => by rw [← hK]; exact pick_any n 4098 hn1 hn2 (by omega) (by omega) w
  have hK98 : K < 4098 := by omega
  clear k0 k1 hK
  go_enter Try.func3, Try.ntmps3
  go_wp2_with (first
    | (go_at_call 6; refine (known_any _).mono ?_; rintro r w1 ⟨rfl, b1⟩; have B1 := hid b1; clear b1)
    | (go_at_call 7; refine (new_bad P _ hP).mono ?_; rintro r w2 ⟨rfl, hw2⟩; replace hw2 := hw2.symm; subst hw2; have B2 := B1; clear B1)
    | (go_at_call 8; refine (rnew_bad P _ hP).mono ?_; rintro r w3 ⟨rfl, hw3⟩; replace hw3 := hw3.symm; subst hw3; have B3 := B2; clear B2))
  go_loopw [14, 15] (fun l i w' => ∃ k : Nat, k ≤ K ∧ i = .int .i64 (k : Int) ∧ Hid (Own w' w1.heap.size l (svs (pgl k))) ∧ Hid (Below w1.heap.size w1 w')) (fun _ i _ => K - (RowKit.intOf i).toNat)
  case atStart => exact ⟨0, by omega, rfl, hid (Own.nil _ _), hid (Below.refl _ _)⟩
  case round =>
    obtain ⟨k, hk, rfl, hO, hB⟩ := hrel
    by_cases hkn : k < K
    · have b0 : (k : Int) < (K : Int) := by omega
      have i1 := page_any (k : Int)
      obtain ⟨pk_, hpk⟩ : ∃ pk_, pg (k : Int) = pk_ := ⟨_, rfl⟩
      have HS := hid (pgl_succ k)
      rw [hpk] at i1 HS
      clear hpk
      go_wp2_with (first
        | (go_at_call 9; refine (i0 _).mono ?_; rintro r w9 ⟨rfl, hw9⟩; replace hw9 := hw9.symm; subst hw9)
        | (go_at_call 10; fail))
      refine (i1 _).mono ?_
      rintro r w4 ⟨rfl, b4⟩
      have hs := hB.out.size
      obtain ⟨v', w5, hap, O5, b5⟩ := append_text w4 w1.heap.size _ (pgl k) pk_ #[.string ⟨pk_.toArray⟩] rfl (hO.out.below b4 (Nat.le_refl _)) (by rw [pgl_len]; omega) (Nat.le_trans hs b4.size)
      rw [← HS.out] at O5
      have O5 := hid O5
      have B5 := hid ((hB.out.trans (b4.mono hs)).trans b5)
      clear hO hB b4 b5 hs HS i1
      go_wp2_with (at_builtin; go_must (refine Lib.wpList_append_run _ rfl _ _ 30 30 rfl _ _ rfl rfl _ _ hap ?_))
      exact ⟨⟨k + 1, by omega, by go_num, O5, B5⟩, by simp [RowKit.intOf]; omega⟩
    · obtain rfl : k = K := by omega
      have b0 : ¬ (k : Int) < (k : Int) := by omega
      have B4 := hid (B3.out.trans (hB.out.mono B3.out.size))
      have sB : w.heap.size ≤ w1.heap.size := B3.out.size
      obtain ⟨av, cv, rfl, hA, hg0⟩ := hO.out.at
      have HA := hid hA
      have HG := hid hg0
      have HO := hid hO.out
      rw [pgl_len] at HO ⊢
      rw [pgl_len] at HG
      clear hA hg0 hO
      by_cases hk0 : k = 0
      · subst hk0
        have j1 := load_bad av 0 cv wr (by omega)
        have j2 := rload_bad av 0 cv wr (by omega)
        clear HO HA HG
        go_wp2_with (first
          | (go_at_call 9; refine (i0 _).mono ?_; rintro r w9 ⟨rfl, hw9⟩; replace hw9 := hw9.symm; subst hw9)
          | (go_at_call 11; refine j1.mono ?_; rintro r w9 ⟨rfl, hw9⟩; replace hw9 := hw9.symm; subst hw9)
          | (go_at_call 12; refine j2.mono ?_; rintro r w9 ⟨rfl, hw9⟩; replace hw9 := hw9.symm; subst hw9))
        go_ret
        exact ⟨rfl, B4.out⟩
      · obtain ⟨gv, rfl, hrv, hgb⟩ := HG.out (by omega)
        have j0 := pk_nonneg at_ (k : Int) (by omega)
        have j1 := pk_lt at_ (k : Int) (by omega)
        obtain ⟨J, hJ⟩ : ∃ J : Nat, pk at_ (k : Int) = (J : Int) := ⟨(pk at_ (k : Int)).toNat, by omega⟩
        have i5 : ∀ w, Calls Try.prog 9 #[.int .i64 at_, .int .i64 (k : Int)] w fun e w' => e = .returned (.int .i64 (J : Int)) ∧ w' = w := fun w => by rw [← hJ]; exact pick_any at_ (k : Int) ha1 ha2 (by omega) (by omega) w
        have hJk : J < k := by omega
        obtain ⟨hO5, _, hgl, ⟨y, hy⟩, hf⟩ := HO.out.set J (by rw [pgl_len]; exact hJk) s.data.toList
        have hsv : sv s.data.toList = .string s := by rw [sv, mk_data]
        rw [hsv] at hO5
        have hLl : ((pgl k).set J s.data.toList).length = k := by rw [List.length_set, pgl_len]
        obtain ⟨LF, hLF⟩ : ∃ LF, (pgl k).set J s.data.toList = LF := ⟨_, rfl⟩
        rw [hLF] at hO5 hLl
        have b5 := hB.out.setCell (p := ⟨gv, J, none⟩) hgb (.string s)
        obtain ⟨w5, hw5⟩ : ∃ w5, wr.setCell ⟨gv, J, none⟩ (.string s) = w5 := ⟨_, rfl⟩
        rw [hw5] at hO5 b5
        have B5 := hid (B3.out.trans (b5.mono sB))
        obtain ⟨av5, cv5, e5, hA5, hg5⟩ := hO5.at
        rw [hLl] at e5
        injection e5 with e51 e52 e53
        subst e51 e53
        obtain ⟨gv', e6, hrv5, _⟩ := hg5 (by omega)
        injection e6 with e6
        injection e6 with e6
        subst e6
        have c7 : (0 : Int) < (k : Int) := by omega
        have c8 : (J : Int) < (k : Int) := by omega
        have c9 : (0 : Int) ≤ (J : Int) := by omega
        have HLL := hid hLl
        have HA5 := hid hA5
        have HR5 := hid hrv5
        clear HO HA HG hO5 hg5 hrv hrv5 hA5 hJ j0 j1 hLF hLl b5 hB e52 hsv hgl hgb
        by_cases hv : 4 ≤ k ∧ k ≤ 4096
        · have jL := load_ok LF gv cv w5 (by rw [HLL.out]; exact hv.1) (by rw [HLL.out]; exact hv.2) HR5.out
          rw [HLL.out] at jL
          by_cases hp : pgs LF = true
          · have jL : Calls Try.prog 11 #[.slice (some ⟨gv, 0, none⟩) k cv] w5 fun r w' => Below w5.heap.size w5 w' ∧ ∃ a g b, r = .returned (.tuple #[.pointer (some ⟨a, 0, none⟩), .int .i64 0]) ∧ Dv w' a g b LF (fun _ => none) 0 false := jL.mono (fun r w' ⟨e1, e2⟩ => by
              rw [if_pos (by rw [HLL.out]; exact hv), if_pos hp] at e2
              obtain ⟨a, g, b, e3, e4, _⟩ := e2
              exact ⟨e1, a, g, b, e3, e4⟩)
            have jR : ∀ w6, Below w5.heap.size w5 w6 → Calls Try.prog 12 #[.slice (some ⟨gv, 0, none⟩) k cv] w6 fun r w' => Below w6.heap.size w6 w' ∧ ∃ q, r = .returned (.tuple #[.pointer (some q), .int .i64 0]) := fun w6 hb6 => by
              have h := rload_ok LF ⟨gv, 0, none⟩ cv w6 (by rw [HLL.out]; exact hv.1) (by rw [HLL.out]; exact hv.2) (HA5.out.below hb6 (Nat.le_refl _))
              rw [HLL.out] at h
              refine h.mono fun r w' ⟨e1, e2⟩ => ⟨e1, ?_⟩
              rcases e2 with ⟨_, e2⟩ | ⟨e2, _⟩
              · exact e2
              · rw [hp] at e2; cases e2
            have jM : ∀ (w8 : World) (a8 : Option Addr) (c8 : Nat), Below w5.heap.size w5 w8 → At w8 a8 LF → Calls Try.prog 15 #[.slice a8 k c8, .slice (some ⟨gv, 0, none⟩) k cv] w8 fun e w' => e = .returned (.bool true) ∧ Below w8.heap.size w8 w' ∧ w'.heap = w8.heap := fun w8 a8 c8 hb8 hA8 => by
              have h := same_yes LF a8 (some ⟨gv, 0, none⟩) c8 cv w8 hA8 (HA5.out.below hb8 (Nat.le_refl _)) (by rw [HLL.out]; omega)
              rw [HLL.out] at h
              exact h
            have jZ : ∀ {w' : World} {a g b : Nat}, Dv w' a g b LF (fun _ => none) 0 false → Calls Try.prog 13 #[.pointer (some ⟨a, 0, none⟩)] w' fun r w'' => r = .returned (.int .i64 (k : Int)) ∧ w'' = w' := fun hD => by
              have h := dSize hD
              rw [HLL.out] at h
              exact h
            have jP : ∀ {w' : World} {a g b : Nat}, Dv w' a g b LF (fun _ => none) 0 false → Calls Try.prog 17 #[.pointer (some ⟨a, 0, none⟩)] w' fun r w'' => (∃ a c, r = .returned (.slice a 0 c)) ∧ Below w'.heap.size w' w'' := fun hD => by
              refine (dPending hD).mono fun r w'' ⟨v, e1, e2, _, e4⟩ => ⟨?_, e4⟩
              obtain ⟨a, c, e5, _, _⟩ := e2.shape
              rw [pls_none] at e5
              exact ⟨a, c, by rw [e1, e5]; rfl⟩
            have hv96 := hv.2
            clear HR5 hv hp
            go_wp2_with (first
              | (go_at_call 9; (with_reducible refine (i0 _).mono ?_); rintro r w9 ⟨rfl, hw9⟩; replace hw9 := hw9.symm; subst hw9)
              | (go_at_call 9; (with_reducible refine (i5 _).mono ?_); rintro r w9 ⟨rfl, hw9⟩; replace hw9 := hw9.symm; subst hw9)
              | (go_at_call 11; refine jL.mono ?_; rintro r w6 ⟨b6, a6, g6, m6, rfl, hD6⟩; have B6 := hid b6; have HC6 := hid hD6; clear b6 hD6)
              | (go_at_call 12; refine (jR _ B6.out).mono ?_; rintro r w7 ⟨b7, q7, rfl⟩; have B7 := hid (B6.out.trans (b7.mono B6.out.size)); have HC7 := hid (HC6.out.below b7 (Nat.le_refl _)); clear b7 B6 HC6)
              | (go_at_call 16; refine (dPages HC7.out).mono ?_; rintro r w8 ⟨v8, rfl, O8, b8⟩; have B8 := hid (B7.out.trans (b8.mono B7.out.size)); have HC8 := hid (HC7.out.below b8 (Nat.le_refl _)); clear b8 B7 HC7; obtain ⟨a8, c8, rfl, hA8, _⟩ := O8.at; have HA8 := hid hA8; rw [HLL.out]; clear O8 hA8)
              | (go_at_call 15; refine (jM _ _ _ B8.out HA8.out).mono ?_; rintro r w9 ⟨rfl, b9, _⟩; have B9 := hid (B8.out.trans (b9.mono B8.out.size)); have HC9 := hid (HC8.out.below b9 (Nat.le_refl _)); clear b9 B8 HC8 HA8)
              | (go_at_call 13; (with_reducible refine (jZ HC9.out).mono ?_); rintro r w' ⟨rfl, hw'⟩; replace hw' := hw'.symm; subst hw')
              | (go_at_call 17; refine (jP HC9.out).mono ?_; rintro r w10 ⟨⟨a10, c10, rfl⟩, b10⟩; have B10 := hid (B9.out.trans (b10.mono B9.out.size)); have HC10 := hid (HC9.out.below b10 (Nat.le_refl _)); clear b10 B9 HC9)
              | (go_at_call 14; (with_reducible refine (dDead HC10.out).mono ?_); rintro r w' ⟨rfl, hw'⟩; replace hw' := hw'.symm; subst hw'))
            go_ret
            exact ⟨rfl, B5.out.trans (B10.out.mono B5.out.size)⟩
          · rw [Bool.not_eq_true] at hp
            have jL : Calls Try.prog 11 #[.slice (some ⟨gv, 0, none⟩) k cv] w5 fun r w' => Below w5.heap.size w5 w' ∧ r = .returned (.tuple #[.pointer none, .int .i64 91]) := jL.mono (fun r w' ⟨e1, e2⟩ => by
              rw [if_pos (by rw [HLL.out]; exact hv), if_neg (by rw [hp]; exact Bool.false_ne_true)] at e2
              exact ⟨e1, e2⟩)
            have jR : ∀ w6, Below w5.heap.size w5 w6 → Calls Try.prog 12 #[.slice (some ⟨gv, 0, none⟩) k cv] w6 fun r w' => Below w6.heap.size w6 w' ∧ r = .returned (.tuple #[.pointer none, .int .i64 91]) := fun w6 hb6 => by
              have h := rload_ok LF ⟨gv, 0, none⟩ cv w6 (by rw [HLL.out]; exact hv.1) (by rw [HLL.out]; exact hv.2) (HA5.out.below hb6 (Nat.le_refl _))
              rw [HLL.out] at h
              refine h.mono fun r w' ⟨e1, e2⟩ => ⟨e1, ?_⟩
              rcases e2 with ⟨e2, _⟩ | ⟨_, e2⟩
              · rw [hp] at e2; cases e2
              · exact e2
            clear HR5 hv hp HLL
            go_wp2_with (first
              | (go_at_call 9; (with_reducible refine (i0 _).mono ?_); rintro r w9 ⟨rfl, hw9⟩; replace hw9 := hw9.symm; subst hw9)
              | (go_at_call 9; (with_reducible refine (i5 _).mono ?_); rintro r w9 ⟨rfl, hw9⟩; replace hw9 := hw9.symm; subst hw9)
              | (go_at_call 11; refine jL.mono ?_; rintro r w6 ⟨b6, rfl⟩; have B6 := hid b6; clear b6)
              | (go_at_call 12; refine (jR _ B6.out).mono ?_; rintro r w7 ⟨b7, rfl⟩; have B7 := hid (B6.out.trans (b7.mono B6.out.size)); clear b7 B6))
            go_ret
            exact ⟨rfl, B5.out.trans (B7.out.mono B5.out.size)⟩
        · have jL := load_bad (some ⟨gv, 0, none⟩) k cv w5 hv
          have jR := rload_bad (some ⟨gv, 0, none⟩) k cv w5 hv
          clear HR5 HA5 HLL
          go_wp2_with (first
            | (go_at_call 9; (with_reducible refine (i0 _).mono ?_); rintro r w9 ⟨rfl, hw9⟩; replace hw9 := hw9.symm; subst hw9)
            | (go_at_call 9; (with_reducible refine (i5 _).mono ?_); rintro r w9 ⟨rfl, hw9⟩; replace hw9 := hw9.symm; subst hw9)
            | (go_at_call 11; refine jL.mono ?_; rintro r w9 ⟨rfl, hw9⟩; replace hw9 := hw9.symm; subst hw9)
            | (go_at_call 12; refine jR.mono ?_; rintro r w9 ⟨rfl, hw9⟩; replace hw9 := hw9.symm; subst hw9))
          go_ret
          exact ⟨rfl, B5.out⟩
set_option maxRecDepth 100000 in
set_option maxHeartbeats 4000000 in
theorem loads_ok (P : Nat) (h4 : 4 ≤ P) (h96 : P ≤ 4096) (n at_ : Int) (hn1 : -9223372036854775808 ≤ n) (hn2 : n ≤ 9223372036854775807) (ha1 : -9223372036854775808 ≤ at_) (ha2 : at_ ≤ 9223372036854775807) (s : ByteArray) (w : World) :
    Calls Try.prog 3 #[.int .i64 (P : Int), .int .i64 n, .int .i64 at_, .string s] w fun r w' => r = .returned (.bool true) ∧ Below w.heap.size w w' := by
  have k0 := pk_nonneg n 4098 (by omega)
  have k1 := pk_lt n 4098 (by omega)
  obtain ⟨K, hK⟩ : ∃ K : Nat, pk n 4098 = (K : Int) := ⟨(pk n 4098).toNat, by omega⟩
  have i0 : ∀ w, Calls Try.prog 9 #[.int .i64 n, .int .i64 4098] w fun e w' => e = .returned (.int .i64 (K : Int)) ∧ w' = w := fun w => by rw [← hK]; exact pick_any n 4098 hn1 hn2 (by omega) (by omega) w
  have hK98 : K < 4098 := by omega
  clear k0 k1 hK
  go_enter Try.func3, Try.ntmps3
  go_wp2_with (first
    | (go_at_call 6; refine (known_any _).mono ?_; rintro r w1 ⟨rfl, b1⟩; have B1 := hid b1; clear b1)
    | (go_at_call 7; refine (new_ok P _ h4 h96).mono ?_; rintro r w2 ⟨a, g, b, rfl, hD, ha, hg, hb, b2⟩; have HD2 := hid hD; have B2 := hid (B1.out.trans (b2.mono B1.out.size)); clear hD b2 B1)
    | (go_at_call 8; refine (rnew_ok P _ h4 h96).mono ?_; rintro r w3 ⟨b3, q, rfl⟩; have HD3 := hid (HD2.out.below b3 (Nat.le_refl _)); have B3 := hid (B2.out.trans (b3.mono B2.out.size)); clear b3 B2 HD2))
  go_loopw [14, 15] (fun l i w' => ∃ k : Nat, k ≤ K ∧ i = .int .i64 (k : Int) ∧ Hid (Own w' w3.heap.size l (svs (pgl k))) ∧ Hid (Below w3.heap.size w3 w')) (fun _ i _ => K - (RowKit.intOf i).toNat)
  case atStart => exact ⟨0, by omega, rfl, hid (Own.nil _ _), hid (Below.refl _ _)⟩
  case round =>
    obtain ⟨k, hk, rfl, hO, hB⟩ := hrel
    by_cases hkn : k < K
    · have b0 : (k : Int) < (K : Int) := by omega
      have i1 := page_any (k : Int)
      obtain ⟨pk_, hpk⟩ : ∃ pk_, pg (k : Int) = pk_ := ⟨_, rfl⟩
      have HS := hid (pgl_succ k)
      rw [hpk] at i1 HS
      clear hpk
      go_wp2_with (first
        | (go_at_call 9; refine (i0 _).mono ?_; rintro r w9 ⟨rfl, hw9⟩; replace hw9 := hw9.symm; subst hw9)
        | (go_at_call 10; fail))
      refine (i1 _).mono ?_
      rintro r w4 ⟨rfl, b4⟩
      have hs := hB.out.size
      obtain ⟨v', w5, hap, O5, b5⟩ := append_text w4 w3.heap.size _ (pgl k) pk_ #[.string ⟨pk_.toArray⟩] rfl (hO.out.below b4 (Nat.le_refl _)) (by rw [pgl_len]; omega) (Nat.le_trans hs b4.size)
      rw [← HS.out] at O5
      have O5 := hid O5
      have B5 := hid ((hB.out.trans (b4.mono hs)).trans b5)
      clear hO hB b4 b5 hs HS i1
      go_wp2_with (at_builtin; go_must (refine Lib.wpList_append_run _ rfl _ _ 30 30 rfl _ _ rfl rfl _ _ hap ?_))
      exact ⟨⟨k + 1, by omega, by go_num, O5, B5⟩, by simp [RowKit.intOf]; omega⟩
    · obtain rfl : k = K := by omega
      have b0 : ¬ (k : Int) < (k : Int) := by omega
      have B4 := hid (B3.out.trans (hB.out.mono B3.out.size))
      have HD4 := hid (HD3.out.below hB.out (Nat.le_refl _))
      have sB : w.heap.size ≤ w3.heap.size := B3.out.size
      obtain ⟨av, cv, rfl, hA, hg0⟩ := hO.out.at
      have HA := hid hA
      have HG := hid hg0
      have HO := hid hO.out
      rw [pgl_len] at HO ⊢
      rw [pgl_len] at HG
      clear hA hg0 hO
      by_cases hk0 : k = 0
      · subst hk0
        have j1 := load_bad av 0 cv wr (by omega)
        have j2 := rload_bad av 0 cv wr (by omega)
        have HD7 := HD4
        have eP : (List.replicate P zp).length = P := List.length_replicate
        have jS := dSize HD7.out
        have jD := dDead HD7.out
        rw [eP] at jS
        clear HO HA HG HD7 HD4 HD3
        go_wp2_with (first
          | (go_at_call 9; refine (i0 _).mono ?_; rintro r w9 ⟨rfl, hw9⟩; replace hw9 := hw9.symm; subst hw9)
          | (go_at_call 11; refine j1.mono ?_; rintro r w9 ⟨rfl, hw9⟩; replace hw9 := hw9.symm; subst hw9)
          | (go_at_call 12; refine j2.mono ?_; rintro r w9 ⟨rfl, hw9⟩; replace hw9 := hw9.symm; subst hw9)
          | (go_at_call 13; refine jS.mono ?_; rintro r w9 ⟨rfl, hw9⟩; replace hw9 := hw9.symm; subst hw9)
          | (go_at_call 14; refine jD.mono ?_; rintro r w9 ⟨rfl, hw9⟩; replace hw9 := hw9.symm; subst hw9))
        go_ret
        exact ⟨rfl, B4.out⟩
      · obtain ⟨gv, rfl, hrv, hgb⟩ := HG.out (by omega)
        have j0 := pk_nonneg at_ (k : Int) (by omega)
        have j1 := pk_lt at_ (k : Int) (by omega)
        obtain ⟨J, hJ⟩ : ∃ J : Nat, pk at_ (k : Int) = (J : Int) := ⟨(pk at_ (k : Int)).toNat, by omega⟩
        have i5 : ∀ w, Calls Try.prog 9 #[.int .i64 at_, .int .i64 (k : Int)] w fun e w' => e = .returned (.int .i64 (J : Int)) ∧ w' = w := fun w => by rw [← hJ]; exact pick_any at_ (k : Int) ha1 ha2 (by omega) (by omega) w
        have hJk : J < k := by omega
        obtain ⟨hO5, _, hgl, ⟨y, hy⟩, hf⟩ := HO.out.set J (by rw [pgl_len]; exact hJk) s.data.toList
        have hsv : sv s.data.toList = .string s := by rw [sv, mk_data]
        rw [hsv] at hO5
        have hLl : ((pgl k).set J s.data.toList).length = k := by rw [List.length_set, pgl_len]
        obtain ⟨LF, hLF⟩ : ∃ LF, (pgl k).set J s.data.toList = LF := ⟨_, rfl⟩
        rw [hLF] at hO5 hLl
        have b5 := hB.out.setCell (p := ⟨gv, J, none⟩) hgb (.string s)
        obtain ⟨w5, hw5⟩ : ∃ w5, wr.setCell ⟨gv, J, none⟩ (.string s) = w5 := ⟨_, rfl⟩
        rw [hw5] at hO5 b5
        have B5 := hid (B3.out.trans (b5.mono sB))
        have HD5 := hid (HD3.out.below b5 (Nat.le_refl _))
        obtain ⟨av5, cv5, e5, hA5, hg5⟩ := hO5.at
        rw [hLl] at e5
        injection e5 with e51 e52 e53
        subst e51 e53
        obtain ⟨gv', e6, hrv5, _⟩ := hg5 (by omega)
        injection e6 with e6
        injection e6 with e6
        subst e6
        have c7 : (0 : Int) < (k : Int) := by omega
        have c8 : (J : Int) < (k : Int) := by omega
        have c9 : (0 : Int) ≤ (J : Int) := by omega
        have HLL := hid hLl
        have HA5 := hid hA5
        have HR5 := hid hrv5
        clear HO HA HG hO5 hg5 hrv hrv5 hA5 hJ j0 j1 hLF hLl b5 hB e52 hsv hgl hgb HD4 HD3
        have jE : ∀ {w' : World} {a g b : Nat}, Dv w' a g b (List.replicate P zp) (fun _ => none) 0 false → Calls Try.prog 13 #[.pointer (some ⟨a, 0, none⟩)] w' fun r w'' => r = .returned (.int .i64 (P : Int)) ∧ w'' = w' := fun hD => by
          have h := dSize hD
          rw [List.length_replicate] at h
          exact h
        by_cases hv : 4 ≤ k ∧ k ≤ 4096
        · have jL := load_ok LF gv cv w5 (by rw [HLL.out]; exact hv.1) (by rw [HLL.out]; exact hv.2) HR5.out
          rw [HLL.out] at jL
          by_cases hp : pgs LF = true
          · have jL : Calls Try.prog 11 #[.slice (some ⟨gv, 0, none⟩) k cv] w5 fun r w' => Below w5.heap.size w5 w' ∧ ∃ a g b, r = .returned (.tuple #[.pointer (some ⟨a, 0, none⟩), .int .i64 0]) ∧ Dv w' a g b LF (fun _ => none) 0 false := jL.mono (fun r w' ⟨e1, e2⟩ => by
              rw [if_pos (by rw [HLL.out]; exact hv), if_pos hp] at e2
              obtain ⟨a, g, b, e3, e4, _⟩ := e2
              exact ⟨e1, a, g, b, e3, e4⟩)
            have jR : ∀ w6, Below w5.heap.size w5 w6 → Calls Try.prog 12 #[.slice (some ⟨gv, 0, none⟩) k cv] w6 fun r w' => Below w6.heap.size w6 w' ∧ ∃ q, r = .returned (.tuple #[.pointer (some q), .int .i64 0]) := fun w6 hb6 => by
              have h := rload_ok LF ⟨gv, 0, none⟩ cv w6 (by rw [HLL.out]; exact hv.1) (by rw [HLL.out]; exact hv.2) (HA5.out.below hb6 (Nat.le_refl _))
              rw [HLL.out] at h
              refine h.mono fun r w' ⟨e1, e2⟩ => ⟨e1, ?_⟩
              rcases e2 with ⟨_, e2⟩ | ⟨e2, _⟩
              · exact e2
              · rw [hp] at e2; cases e2
            have jM : ∀ (w8 : World) (a8 : Option Addr) (c8 : Nat), Below w5.heap.size w5 w8 → At w8 a8 LF → Calls Try.prog 15 #[.slice a8 k c8, .slice (some ⟨gv, 0, none⟩) k cv] w8 fun e w' => e = .returned (.bool true) ∧ Below w8.heap.size w8 w' ∧ w'.heap = w8.heap := fun w8 a8 c8 hb8 hA8 => by
              have h := same_yes LF a8 (some ⟨gv, 0, none⟩) c8 cv w8 hA8 (HA5.out.below hb8 (Nat.le_refl _)) (by rw [HLL.out]; omega)
              rw [HLL.out] at h
              exact h
            have jZ : ∀ {w' : World} {a g b : Nat}, Dv w' a g b LF (fun _ => none) 0 false → Calls Try.prog 13 #[.pointer (some ⟨a, 0, none⟩)] w' fun r w'' => r = .returned (.int .i64 (k : Int)) ∧ w'' = w' := fun hD => by
              have h := dSize hD
              rw [HLL.out] at h
              exact h
            have jP : ∀ {w' : World} {a g b : Nat}, Dv w' a g b LF (fun _ => none) 0 false → Calls Try.prog 17 #[.pointer (some ⟨a, 0, none⟩)] w' fun r w'' => (∃ a c, r = .returned (.slice a 0 c)) ∧ Below w'.heap.size w' w'' := fun hD => by
              refine (dPending hD).mono fun r w'' ⟨v, e1, e2, _, e4⟩ => ⟨?_, e4⟩
              obtain ⟨a, c, e5, _, _⟩ := e2.shape
              rw [pls_none] at e5
              exact ⟨a, c, by rw [e1, e5]; rfl⟩
            have hv96 := hv.2
            clear HR5 hv hp
            go_wp2_with (first
              | (go_at_call 9; (with_reducible refine (i0 _).mono ?_); rintro r w9 ⟨rfl, hw9⟩; replace hw9 := hw9.symm; subst hw9)
              | (go_at_call 9; (with_reducible refine (i5 _).mono ?_); rintro r w9 ⟨rfl, hw9⟩; replace hw9 := hw9.symm; subst hw9)
              | (go_at_call 11; refine jL.mono ?_; rintro r w6 ⟨b6, a6, g6, m6, rfl, hD6⟩; have B6 := hid b6; have HC6 := hid hD6; clear b6 hD6)
              | (go_at_call 12; refine (jR _ B6.out).mono ?_; rintro r w7 ⟨b7, q7, rfl⟩; have B7 := hid (B6.out.trans (b7.mono B6.out.size)); have HC7 := hid (HC6.out.below b7 (Nat.le_refl _)); clear b7 B6 HC6)
              | (go_at_call 13; (with_reducible refine (jE (HD5.out.below B7.out (Nat.le_refl _))).mono ?_); rintro r w' ⟨rfl, hw'⟩; replace hw' := hw'.symm; subst hw')
              | (go_at_call 14; (with_reducible refine (dDead (HD5.out.below B7.out (Nat.le_refl _))).mono ?_); rintro r w' ⟨rfl, hw'⟩; replace hw' := hw'.symm; subst hw')
              | (go_at_call 16; refine (dPages HC7.out).mono ?_; rintro r w8 ⟨v8, rfl, O8, b8⟩; have B8 := hid (B7.out.trans (b8.mono B7.out.size)); have HC8 := hid (HC7.out.below b8 (Nat.le_refl _)); clear b8 B7 HC7; obtain ⟨a8, c8, rfl, hA8, _⟩ := O8.at; have HA8 := hid hA8; rw [HLL.out]; clear O8 hA8)
              | (go_at_call 15; refine (jM _ _ _ B8.out HA8.out).mono ?_; rintro r w9 ⟨rfl, b9, _⟩; have B9 := hid (B8.out.trans (b9.mono B8.out.size)); have HC9 := hid (HC8.out.below b9 (Nat.le_refl _)); clear b9 B8 HC8 HA8)
              | (go_at_call 13; (with_reducible refine (jZ HC9.out).mono ?_); rintro r w' ⟨rfl, hw'⟩; replace hw' := hw'.symm; subst hw')
              | (go_at_call 17; refine (jP HC9.out).mono ?_; rintro r w10 ⟨⟨a10, c10, rfl⟩, b10⟩; have B10 := hid (B9.out.trans (b10.mono B9.out.size)); have HC10 := hid (HC9.out.below b10 (Nat.le_refl _)); clear b10 B9 HC9)
              | (go_at_call 14; (with_reducible refine (dDead HC10.out).mono ?_); rintro r w' ⟨rfl, hw'⟩; replace hw' := hw'.symm; subst hw'))
            go_ret
            exact ⟨rfl, B5.out.trans (B10.out.mono B5.out.size)⟩
          · rw [Bool.not_eq_true] at hp
            have jL : Calls Try.prog 11 #[.slice (some ⟨gv, 0, none⟩) k cv] w5 fun r w' => Below w5.heap.size w5 w' ∧ r = .returned (.tuple #[.pointer none, .int .i64 91]) := jL.mono (fun r w' ⟨e1, e2⟩ => by
              rw [if_pos (by rw [HLL.out]; exact hv), if_neg (by rw [hp]; exact Bool.false_ne_true)] at e2
              exact ⟨e1, e2⟩)
            have jR : ∀ w6, Below w5.heap.size w5 w6 → Calls Try.prog 12 #[.slice (some ⟨gv, 0, none⟩) k cv] w6 fun r w' => Below w6.heap.size w6 w' ∧ r = .returned (.tuple #[.pointer none, .int .i64 91]) := fun w6 hb6 => by
              have h := rload_ok LF ⟨gv, 0, none⟩ cv w6 (by rw [HLL.out]; exact hv.1) (by rw [HLL.out]; exact hv.2) (HA5.out.below hb6 (Nat.le_refl _))
              rw [HLL.out] at h
              refine h.mono fun r w' ⟨e1, e2⟩ => ⟨e1, ?_⟩
              rcases e2 with ⟨e2, _⟩ | ⟨_, e2⟩
              · rw [hp] at e2; cases e2
              · exact e2
            clear HR5 hv hp HLL
            go_wp2_with (first
              | (go_at_call 9; (with_reducible refine (i0 _).mono ?_); rintro r w9 ⟨rfl, hw9⟩; replace hw9 := hw9.symm; subst hw9)
              | (go_at_call 9; (with_reducible refine (i5 _).mono ?_); rintro r w9 ⟨rfl, hw9⟩; replace hw9 := hw9.symm; subst hw9)
              | (go_at_call 11; refine jL.mono ?_; rintro r w6 ⟨b6, rfl⟩; have B6 := hid b6; clear b6)
              | (go_at_call 12; refine (jR _ B6.out).mono ?_; rintro r w7 ⟨b7, rfl⟩; have B7 := hid (B6.out.trans (b7.mono B6.out.size)); clear b7 B6)
              | (go_at_call 13; (with_reducible refine (jE (HD5.out.below B7.out (Nat.le_refl _))).mono ?_); rintro r w' ⟨rfl, hw'⟩; replace hw' := hw'.symm; subst hw')
              | (go_at_call 14; (with_reducible refine (dDead (HD5.out.below B7.out (Nat.le_refl _))).mono ?_); rintro r w' ⟨rfl, hw'⟩; replace hw' := hw'.symm; subst hw'))
            go_ret
            exact ⟨rfl, B5.out.trans (B7.out.mono B5.out.size)⟩
        · have jL := load_bad (some ⟨gv, 0, none⟩) k cv w5 hv
          have jR := rload_bad (some ⟨gv, 0, none⟩) k cv w5 hv
          have eP : (List.replicate P zp).length = P := List.length_replicate
          have jS := dSize HD5.out
          have jD := dDead HD5.out
          rw [eP] at jS
          clear HR5 HA5 HLL HD5
          go_wp2_with (first
            | (go_at_call 9; (with_reducible refine (i0 _).mono ?_); rintro r w9 ⟨rfl, hw9⟩; replace hw9 := hw9.symm; subst hw9)
            | (go_at_call 9; (with_reducible refine (i5 _).mono ?_); rintro r w9 ⟨rfl, hw9⟩; replace hw9 := hw9.symm; subst hw9)
            | (go_at_call 11; refine jL.mono ?_; rintro r w9 ⟨rfl, hw9⟩; replace hw9 := hw9.symm; subst hw9)
            | (go_at_call 12; refine jR.mono ?_; rintro r w9 ⟨rfl, hw9⟩; replace hw9 := hw9.symm; subst hw9)
            | (go_at_call 13; refine jS.mono ?_; rintro r w9 ⟨rfl, hw9⟩; replace hw9 := hw9.symm; subst hw9)
            | (go_at_call 14; refine jD.mono ?_; rintro r w9 ⟨rfl, hw9⟩; replace hw9 := hw9.symm; subst hw9))
          go_ret
          exact ⟨rfl, B5.out⟩
end Go.Proofs.Ytnelipmicanoeaa
