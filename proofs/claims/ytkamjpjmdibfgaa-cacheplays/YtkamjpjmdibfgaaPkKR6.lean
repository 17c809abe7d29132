import Derived.Test.YtkamjpjmdibfgaaPkKR4
/- Layer 15, the document's cache: Pin, Unpin, Drop -/
namespace Go.Proofs.Ytkamjpjmdibfgaa
open Go.RowKit Go.Maps
namespace Kc
theorem rfind_none {w : World} {a B : Nat} {v : Value} {L : List En} {f m o : Nat} (h : Rf w a B v L f m o) (hl : L.length ≤ 1000000) (k : List UInt8) (hf : fnd k L = none) :
    Calls Try.prog 39 #[.pointer (some ⟨a, 0, none⟩), .string ⟨k.toArray⟩] w fun r w' => r = .returned (.int .i64 (-1)) ∧ w' = w :=
  (rfind_any h hl k).mono fun r w' ⟨hw, hc⟩ => by
    refine ⟨?_, hw⟩
    rcases hc with ⟨_, h⟩ | ⟨X, Y, e, hL, he, hX, _⟩
    · exact h
    · rw [hL, (fnd_at he hX).1] at hf; cases hf
theorem rfind_some {w : World} {a B : Nat} {v : Value} {L : List En} {f m o : Nat} (h : Rf w a B v L f m o) (hl : L.length ≤ 1000000) (k : List UInt8) {e : En} (hf : fnd k L = some e) :
    ∃ X Y, L = X ++ e :: Y ∧ e.k = k ∧ wo k L = X ++ Y ∧ (∀ q, rp k q L = X ++ re e q :: Y) ∧ Calls Try.prog 39 #[.pointer (some ⟨a, 0, none⟩), .string ⟨k.toArray⟩] w fun r w' => r = .returned (.int .i64 (X.length : Int)) ∧ w' = w := by
  obtain ⟨X, Y, hL, hek, hwo, hrp, hX⟩ := fnd_split hf
  refine ⟨X, Y, hL, hek, hwo, hrp, (rfind_any h hl k).mono fun r w' ⟨hw, hc⟩ => ⟨?_, hw⟩⟩
  rcases hc with ⟨h0, _⟩ | ⟨X', Y', e', he, hk', hX', hr⟩
  · rw [hf] at h0; cases h0
  · rw [hr]
    rw [hL] at he
    rcases Nat.lt_trichotomy X'.length X.length with c | c | c
    · exfalso
      have h1 : (X ++ e :: Y)[X'.length]? = some e' := by rw [he, List.getElem?_append_right (Nat.le_refl _), Nat.sub_self]; rfl
      rw [List.getElem?_append_left c] at h1
      exact hX e' (List.mem_of_getElem? h1) hk'
    · rw [c]
    · exfalso
      have h1 : (X' ++ e' :: Y')[X.length]? = some e := by rw [← he, List.getElem?_append_right (Nat.le_refl _), Nat.sub_self]; rfl
      rw [List.getElem?_append_left c] at h1
      exact hX' e (List.mem_of_getElem? h1) hek
theorem ro_refl {w : World} {a B : Nat} {v : Value} {L : List En} {f m o : Nat} (h : Rf w a B v L f m o) : Ro w a B v w L f m o := ⟨⟨v, h, fun _ hk => .inl hk⟩, keep_refl _ _⟩
/-- a pin is written -/
theorem Rf.pin {w : World} {a B g cap n : Nat} {X Y : List En} {e : En} {f m o : Nat} (h : Rf w a B (.slice (some ⟨g, 0, none⟩) n cap) (X ++ e :: Y) f m o) (q : Nat) : Ro w a B (.slice (some ⟨g, 0, none⟩) n cap) (w.setCell ⟨g, X.length * 3 + 2, none⟩ (.int .i64 (q : Int))) (X ++ re e q :: Y) f m o := by
  have hga : g ≠ a := fun e => h.ne (by rw [e]; rfl)
  have hlen : (X ++ re e q :: Y).length = (X ++ e :: Y).length := by simp
  have hcells : thc (X ++ re e q :: Y) = (thc (X ++ e :: Y)).set (X.length * 3 + 2) (.int .i64 (q : Int)) := by
    rw [thc_append, thc_append, List.set_append_right _ _ (by rw [thc_len]; omega), thc_len, show X.length * 3 + 2 - X.length * 3 = 2 by omega]
    rfl
  refine ⟨⟨.slice (some ⟨g, 0, none⟩) n cap, ⟨(heap_setCell_other _ _ _ _ (Ne.symm hga)).trans h.row, ?_, h.ne⟩, fun _ hk => .inl hk⟩, keep_set (keep_refl _ _) (.inr rfl) _ _⟩
  rw [hlen, hcells]
  rcases h.own with ⟨e0, _⟩ | ⟨g', cap', e0, h1, h2, h3, h4, h5, h6⟩
  · cases e0
  · injection e0 with e1 e2 e3
    injection e1 with e1
    injection e1 with e1
    subst e1 e2 e3
    have hj : X.length * 3 + 2 < (thc (X ++ e :: Y)).length := by rw [thc_len]; simp; omega
    refine .inr ⟨g, cap, rfl, h1, h2, by rw [List.length_set]; exact h3, fun i v hv => ?_, fun i hi => ?_, by simpa [World.setCell] using h6⟩
    · rw [Nat.zero_add]
      by_cases c : i = X.length * 3 + 2
      · subst c
        rw [List.getElem?_set_self hj] at hv
        obtain rfl := Option.some.inj hv
        have hc := h4 _ _ (List.getElem?_eq_getElem hj)
        rw [Nat.zero_add] at hc
        exact World.cell?_setCell_same _ _ _ (by rw [hc])
      · rw [List.getElem?_set_ne (Ne.symm c)] at hv
        rw [World.cell?_setCell_other _ _ _ _ (by simp; try exact fun e => c e.symm)]
        have := h4 i v hv
        rwa [Nat.zero_add] at this
    · have := h5 i hi
      refine ⟨?_, by rw [World.frozen?_setCell]; exact this.2⟩
      by_cases c : 0 + i = X.length * 3 + 2
      · rw [c]
        rw [c] at this
        obtain ⟨y, hy⟩ := Option.isSome_iff_exists.1 this.1
        rw [World.cell?_setCell_same _ _ _ hy]; rfl
      · rw [World.cell?_setCell_other _ _ _ _ (by simp; try exact fun e => c (by omega))]; exact this.1
theorem ownM_fz {w : World} {g n cap : Nat} {cs : List Value} (h : OwnM 3 w (.slice (some ⟨g, 0, none⟩) n cap) n cs) {j : Nat} (hj : j < n * 3) : w.frozen? ⟨g, j, none⟩ = false := by
  rcases h with ⟨e0, _⟩ | ⟨g', cap', e0, h1, h2, h3, h4, h5, h6⟩
  · cases e0
  · injection e0 with e1 e2 e3
    injection e1 with e1
    injection e1 with e1
    subst e1 e3
    have := (h5 j (by omega)).2
    rwa [Nat.zero_add] at this
set_option maxRecDepth 100000 in
set_option maxHeartbeats 4000000 in
theorem rpin_none {w : World} {a B : Nat} {v : Value} {L : List En} {f m o : Nat} (h : Rf w a B v L f m o) (hl : L.length ≤ 1000000) (k : List UInt8) (hf : fnd k L = none) :
    Calls Try.prog 18 #[.pointer (some ⟨a, 0, none⟩), .string ⟨k.toArray⟩] w fun r w' => r = .returned (.int .i64 152) ∧ w' = w := by
  have i1 := rfind_none h hl k hf
  clear h hf
  generalize (ByteArray.mk k.toArray) = K at *
  go_enter Try.func18, Try.ntmps18
  go_wp2_with (go_at_call 39; (with_reducible refine i1.mono ?_); rintro r w9 ⟨rfl, hw9⟩; replace hw9 := hw9.symm; subst hw9)
  go_ret
  exact ⟨rfl, rfl⟩
set_option maxRecDepth 100000 in
set_option maxHeartbeats 4000000 in
theorem runpin_none {w : World} {a B : Nat} {v : Value} {L : List En} {f m o : Nat} (h : Rf w a B v L f m o) (hl : L.length ≤ 1000000) (k : List UInt8) (hf : fnd k L = none) :
    Calls Try.prog 20 #[.pointer (some ⟨a, 0, none⟩), .string ⟨k.toArray⟩] w fun r w' => r = .returned (.int .i64 152) ∧ w' = w := by
  have i1 := rfind_none h hl k hf
  clear h hf
  generalize (ByteArray.mk k.toArray) = K at *
  go_enter Try.func20, Try.ntmps20
  go_wp2_with (go_at_call 39; (with_reducible refine i1.mono ?_); rintro r w9 ⟨rfl, hw9⟩; replace hw9 := hw9.symm; subst hw9)
  go_ret
  exact ⟨rfl, rfl⟩
set_option maxRecDepth 100000 in
set_option maxHeartbeats 4000000 in
theorem rdrop_none {w : World} {a B : Nat} {v : Value} {L : List En} {f m o : Nat} (h : Rf w a B v L f m o) (hl : L.length ≤ 1000000) (k : List UInt8) (hf : fnd k L = none) :
    Calls Try.prog 16 #[.pointer (some ⟨a, 0, none⟩), .string ⟨k.toArray⟩] w fun r w' => r = .returned (.int .i64 152) ∧ w' = w := by
  have i1 := rfind_none h hl k hf
  clear h hf
  generalize (ByteArray.mk k.toArray) = K at *
  go_enter Try.func16, Try.ntmps16
  go_wp2_with (go_at_call 39; (with_reducible refine i1.mono ?_); rintro r w9 ⟨rfl, hw9⟩; replace hw9 := hw9.symm; subst hw9)
  go_ret
  exact ⟨rfl, rfl⟩
set_option maxRecDepth 100000 in
set_option maxHeartbeats 4000000 in
theorem rpin_bad {w : World} {a B : Nat} {v : Value} {L : List En} {f m o : Nat} (h : Rf w a B v L f m o) (hl : L.length ≤ 1000000) (k : List UInt8) {e : En} (hf : fnd k L = some e) (hp : e.p = 65535) :
    Calls Try.prog 18 #[.pointer (some ⟨a, 0, none⟩), .string ⟨k.toArray⟩] w fun r w' => r = .returned (.int .i64 153) ∧ w' = w := by
  obtain ⟨X, Y, hL, hek, hwo, hrp, i1⟩ := rfind_some h hl k hf
  have c1 := h.cs.2.1
  subst hL
  obtain ⟨g, cap, hv, k0, k1, k2, hgl⟩ := ownM_e h.own
  subst hv
  have HR := hid h
  have HL := hid hl
  have y1 : (X.length : Int) < ((X ++ e :: Y).length : Int) := by simp; omega
  have y3 : (0 : Int) ≤ (X.length : Int) := by omega
  have y4 : ¬ (X.length : Int) < 0 := by omega
  have fz := ownM_fz h.own (j := X.length * 3 + 2) (by simp; omega)
  have HWO := hid hwo
  have HRP := hid hrp
  obtain ⟨n, hn⟩ : ∃ n, (X ++ e :: Y).length = n := ⟨_, rfl⟩
  rw [hn] at c1 y1
  obtain ⟨t, ht⟩ : ∃ t, X.length = t := ⟨_, rfl⟩
  have HTT := hid ht
  have HNN := hid hn
  rw [ht] at y1 y3 y4 k2 i1 fz
  have y5 : decide ((t : Int) < 0) = false := decide_eq_false y4
  obtain ⟨pe, hpe⟩ : ∃ pe, e.p = pe := ⟨_, rfl⟩
  rw [hpe] at k2 hp
  have z1 : 65535 ≤ (pe : Int) := by omega
  clear hpe hp
  clear h hf hek hwo hrp hn ht hl k0 k1 hgl
  generalize (ByteArray.mk k.toArray) = K at *
  go_enter Try.func18, Try.ntmps18
  go_wp2_with (go_at_call 39; (with_reducible refine i1.mono ?_); rintro r w9 ⟨rfl, hw9⟩; replace hw9 := hw9.symm; subst hw9)
  go_ret
  exact ⟨rfl, rfl⟩
set_option maxRecDepth 100000 in
set_option maxHeartbeats 4000000 in
theorem rpin_ok {w : World} {a B : Nat} {v : Value} {L : List En} {f m o : Nat} (h : Rf w a B v L f m o) (hl : L.length ≤ 1000000) (k : List UInt8) {e : En} (hf : fnd k L = some e) (hp : e.p < 65535) (hpm : e.p ≤ 65535) :
    Calls Try.prog 18 #[.pointer (some ⟨a, 0, none⟩), .string ⟨k.toArray⟩] w fun r w' => r = .returned (.int .i64 0) ∧ Ro w a B v w' (rp k (e.p + 1) L) f m o := by
  obtain ⟨X, Y, hL, hek, hwo, hrp, i1⟩ := rfind_some h hl k hf
  have c1 := h.cs.2.1
  subst hL
  obtain ⟨g, cap, hv, k0, k1, k2, hgl⟩ := ownM_e h.own
  subst hv
  have HR := hid h
  have HL := hid hl
  have y1 : (X.length : Int) < ((X ++ e :: Y).length : Int) := by simp; omega
  have y3 : (0 : Int) ≤ (X.length : Int) := by omega
  have y4 : ¬ (X.length : Int) < 0 := by omega
  have fz := ownM_fz h.own (j := X.length * 3 + 2) (by simp; omega)
  have HWO := hid hwo
  have HRP := hid hrp
  obtain ⟨n, hn⟩ : ∃ n, (X ++ e :: Y).length = n := ⟨_, rfl⟩
  rw [hn] at c1 y1
  obtain ⟨t, ht⟩ : ∃ t, X.length = t := ⟨_, rfl⟩
  have HTT := hid ht
  have HNN := hid hn
  rw [ht] at y1 y3 y4 k2 i1 fz
  have y5 : decide ((t : Int) < 0) = false := decide_eq_false y4
  obtain ⟨pe, hpe⟩ : ∃ pe, e.p = pe := ⟨_, rfl⟩
  obtain ⟨pq, hpq⟩ : ∃ pq, pe + 1 = pq := ⟨_, rfl⟩
  have hqq : e.p + 1 = pq := by rw [hpe]; exact hpq
  rw [hpe] at k2 hp
  have z1 : ¬ 65535 ≤ (pe : Int) := by omega
  have z2 : IntKind.i64.wrap ((pe : Int) + 1) = (pq : Int) := by rw [IntKind.wrap_i64]; have := hpm; omega
  have z4 : decide (65535 ≤ (pe : Int)) = false := decide_eq_false z1
  clear z1
  have P : Hid (Ro w a B (.slice (some ⟨g, 0, none⟩) (X ++ e :: Y).length cap) (w.setCell ⟨g, t * 3 + 2, none⟩ (.int .i64 (pq : Int))) (rp k (e.p + 1) (X ++ e :: Y)) f m o) := by
    show Ro _ _ _ _ _ _ _ _ _
    rw [hrp, hqq, ← ht]
    exact h.pin pq
  rw [hqq] at P ⊢
  clear hpe hp hpq hqq hpm
  clear h hf hek hwo hrp hn ht hl k0 k1 hgl
  generalize (ByteArray.mk k.toArray) = K at *
  go_enter Try.func18, Try.ntmps18
  go_wp2_with (go_at_call 39; (with_reducible refine i1.mono ?_); rintro r w9 ⟨rfl, hw9⟩; replace hw9 := hw9.symm; subst hw9)
  go_ret
  exact ⟨rfl, P.out⟩
set_option maxRecDepth 100000 in
set_option maxHeartbeats 4000000 in
theorem runpin_bad {w : World} {a B : Nat} {v : Value} {L : List En} {f m o : Nat} (h : Rf w a B v L f m o) (hl : L.length ≤ 1000000) (k : List UInt8) {e : En} (hf : fnd k L = some e) (hp : e.p = 0) :
    Calls Try.prog 20 #[.pointer (some ⟨a, 0, none⟩), .string ⟨k.toArray⟩] w fun r w' => r = .returned (.int .i64 153) ∧ w' = w := by
  obtain ⟨X, Y, hL, hek, hwo, hrp, i1⟩ := rfind_some h hl k hf
  have c1 := h.cs.2.1
  subst hL
  obtain ⟨g, cap, hv, k0, k1, k2, hgl⟩ := ownM_e h.own
  subst hv
  have HR := hid h
  have HL := hid hl
  have y1 : (X.length : Int) < ((X ++ e :: Y).length : Int) := by simp; omega
  have y3 : (0 : Int) ≤ (X.length : Int) := by omega
  have y4 : ¬ (X.length : Int) < 0 := by omega
  have fz := ownM_fz h.own (j := X.length * 3 + 2) (by simp; omega)
  have HWO := hid hwo
  have HRP := hid hrp
  obtain ⟨n, hn⟩ : ∃ n, (X ++ e :: Y).length = n := ⟨_, rfl⟩
  rw [hn] at c1 y1
  obtain ⟨t, ht⟩ : ∃ t, X.length = t := ⟨_, rfl⟩
  have HTT := hid ht
  have HNN := hid hn
  rw [ht] at y1 y3 y4 k2 i1 fz
  have y5 : decide ((t : Int) < 0) = false := decide_eq_false y4
  obtain ⟨pe, hpe⟩ : ∃ pe, e.p = pe := ⟨_, rfl⟩
  rw [hpe] at k2 hp
  have z1 : (pe : Int) = 0 := by omega
  clear hpe hp
  clear h hf hek hwo hrp hn ht hl k0 k1 hgl
  generalize (ByteArray.mk k.toArray) = K at *
  go_enter Try.func20, Try.ntmps20
  go_wp2_with (go_at_call 39; (with_reducible refine i1.mono ?_); rintro r w9 ⟨rfl, hw9⟩; replace hw9 := hw9.symm; subst hw9)
  go_ret
  exact ⟨rfl, rfl⟩
set_option maxRecDepth 100000 in
set_option maxHeartbeats 4000000 in
theorem runpin_ok {w : World} {a B : Nat} {v : Value} {L : List En} {f m o : Nat} (h : Rf w a B v L f m o) (hl : L.length ≤ 1000000) (k : List UInt8) {e : En} (hf : fnd k L = some e) (hp : 0 < e.p) (hpm : e.p ≤ 65535) :
    Calls Try.prog 20 #[.pointer (some ⟨a, 0, none⟩), .string ⟨k.toArray⟩] w fun r w' => r = .returned (.int .i64 0) ∧ Ro w a B v w' (rp k (e.p - 1) L) f m o := by
  obtain ⟨X, Y, hL, hek, hwo, hrp, i1⟩ := rfind_some h hl k hf
  have c1 := h.cs.2.1
  subst hL
  obtain ⟨g, cap, hv, k0, k1, k2, hgl⟩ := ownM_e h.own
  subst hv
  have HR := hid h
  have HL := hid hl
  have y1 : (X.length : Int) < ((X ++ e :: Y).length : Int) := by simp; omega
  have y3 : (0 : Int) ≤ (X.length : Int) := by omega
  have y4 : ¬ (X.length : Int) < 0 := by omega
  have fz := ownM_fz h.own (j := X.length * 3 + 2) (by simp; omega)
  have HWO := hid hwo
  have HRP := hid hrp
  obtain ⟨n, hn⟩ : ∃ n, (X ++ e :: Y).length = n := ⟨_, rfl⟩
  rw [hn] at c1 y1
  obtain ⟨t, ht⟩ : ∃ t, X.length = t := ⟨_, rfl⟩
  have HTT := hid ht
  have HNN := hid hn
  rw [ht] at y1 y3 y4 k2 i1 fz
  have y5 : decide ((t : Int) < 0) = false := decide_eq_false y4
  obtain ⟨pe, hpe⟩ : ∃ pe, e.p = pe := ⟨_, rfl⟩
  obtain ⟨pq, hpq⟩ : ∃ pq, pe - 1 = pq := ⟨_, rfl⟩
  have hqq : e.p - 1 = pq := by rw [hpe]; exact hpq
  rw [hpe] at k2 hp
  have z1 : ¬ (pe : Int) = 0 := by omega
  have z2 : IntKind.i64.wrap ((pe : Int) - 1) = (pq : Int) := by rw [IntKind.wrap_i64]; have := hpm; omega
  have P : Hid (Ro w a B (.slice (some ⟨g, 0, none⟩) (X ++ e :: Y).length cap) (w.setCell ⟨g, t * 3 + 2, none⟩ (.int .i64 (pq : Int))) (rp k (e.p - 1) (X ++ e :: Y)) f m o) := by
    show Ro _ _ _ _ _ _ _ _ _
    rw [hrp, hqq, ← ht]
    exact h.pin pq
  rw [hqq] at P ⊢
  clear hpe hp hpq hqq hpm
  clear h hf hek hwo hrp hn ht hl k0 k1 hgl
  generalize (ByteArray.mk k.toArray) = K at *
  go_enter Try.func20, Try.ntmps20
  go_wp2_with (go_at_call 39; (with_reducible refine i1.mono ?_); rintro r w9 ⟨rfl, hw9⟩; replace hw9 := hw9.symm; subst hw9)
  go_ret
  exact ⟨rfl, P.out⟩
end Kc
end Go.Proofs.Ytkamjpjmdibfgaa
