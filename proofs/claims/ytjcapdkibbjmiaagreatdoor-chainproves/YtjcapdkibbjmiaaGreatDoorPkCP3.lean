import Derived.Test.YtjcapdkibbjmiaaGreatDoorPkCM2
import Derived.Test.YtjcapdkibbjmiaaGreatDoorPkO51
import Derived.Test.YtjcapdkibbjmiaaGreatDoorPkO3
import Derived.Deep.RegionHeld3
namespace Go.Proofs.YtjcapdkibbjmiaaGreatDoor
open Go.RowKit Go.Shelf
namespace Chn
theorem Mc.yes {w : World} {b : Nat} {f : Pl} (h : Mc w b f) {s : Nat × Nat} (hs : Lo s) {x : Nat} (hx : f s = .some x) : (Instr.lookup 87 (.map (some b)) (.agg #[.int .i64 (s.1 : Int), .int .i64 (s.2 : Int)]) true).run Tryz.prog w = .ok (.tuple #[.int .i64 (x : Int), .bool true]) w := by
  obtain ⟨arr, clock, hb, h2, h3, h4⟩ := h.m
  obtain ⟨l, hl⟩ := keyAr hs.r
  have hc := lawAr.check w arr.isEmpty hl
  simp only [kv] at hc
  rcases Mc.find (w := w) h3 h4 hs with ⟨f1, f2, _⟩ | ⟨j, e, y, f1, f2, _⟩
  · rw [hx] at f2; cases f2
  · rw [hx] at f2
    cases f2
    simp only [kn, kv] at f1
    simp [Instr.lookup, run_underlying undPs, MapKept.run_getObj_map hb, hc, f1, Result.andThen]
theorem Mc.not {w : World} {b : Nat} {f : Pl} (h : Mc w b f) {s : Nat × Nat} (hs : Lo s) (hx : f s = .none) : (Instr.lookup 87 (.map (some b)) (.agg #[.int .i64 (s.1 : Int), .int .i64 (s.2 : Int)]) true).run Tryz.prog w = .ok (.tuple #[.int .i64 0, .bool false]) w := by
  obtain ⟨arr, clock, hb, h2, h3, h4⟩ := h.m
  obtain ⟨l, hl⟩ := keyAr hs.r
  have hc := lawAr.check w arr.isEmpty hl
  simp only [kv] at hc
  rcases Mc.find (w := w) h3 h4 hs with ⟨f1, f2, _⟩ | ⟨j, e, y, f1, f2, _⟩
  · simp only [kn, kv] at f1
    simp [Instr.lookup, run_underlying undPs, MapKept.run_getObj_map hb, hc, f1, zeroIn w, Result.andThen]
  · rw [hx] at f2; cases f2
structure Td (w : World) (q b : Nat) (v : Value) (K : List (Nat × Nat)) : Prop where
  c0 : w.cell? ⟨q, 0, none⟩ = .some v
  c1 : w.cell? ⟨q, 1, none⟩ = .some (.map (.some b))
  f0 : w.frozen? ⟨q, 0, none⟩ = false
  own : OwnP w v K
  mp : ∃ f, Mc w b f ∧ ∀ s j, f s = .some j ↔ K[j]? = .some s
  lo : ∀ s ∈ K, s.1 < s.2 ∧ s.2 ≤ 1099511627776
  qb : q ≠ b
  vq : v.ownBlock ≠ .some q
  vb : v.ownBlock ≠ .some b
  lt : q < w.heap.size
def Td.F (q b : Nat) (v : Value) : Nat → Prop := fun k => k = q ∨ k = b ∨ v.ownBlock = .some k
theorem Td.keep {w w' : World} {q b : Nat} {v : Value} {K : List (Nat × Nat)} {S : Nat → Prop} (h : Td w q b v K) (hk : Keep S w w') (hs : ∀ k, Td.F q b v k → ¬ S k) : Td w' q b v K := by
  have eq := hk.block q h.lt (hs q (.inl rfl))
  obtain ⟨f, hf, hg⟩ := h.mp
  exact ⟨(World.cell?_of_block (w := w) eq).trans h.c0, (World.cell?_of_block (w := w) eq).trans h.c1, (World.frozen?_of_block (w := w) eq).trans h.f0, h.own.keep hk fun k e => hs k (.inr (.inr e)), ⟨f, hf.keep hk (hs b (.inr (.inl rfl))), hg⟩, h.lo, h.qb, h.vq, h.vb, Nat.lt_of_lt_of_le h.lt hk.size⟩
theorem Td.below {w w' : World} {q b : Nat} {v : Value} {K : List (Nat × Nat)} (h : Td w q b v K) (hk : Below w.heap.size w w') : Td w' q b v K := h.keep (Keep.ofBelow (S := fun _ => False) hk) fun _ _ e => e
theorem Td.Flt {w : World} {q b : Nat} {v : Value} {K : List (Nat × Nat)} (h : Td w q b v K) : ∀ k, Td.F q b v k → k < w.heap.size := by
  rintro k (rfl | rfl | e)
  · exact h.lt
  · obtain ⟨f, hf, _⟩ := h.mp; exact hf.lt
  · exact h.own.lt k e
theorem Td.yes {w : World} {q b : Nat} {v : Value} {K : List (Nat × Nat)} (h : Td w q b v K) {j x y : Nat} (hj : K[j]? = .some (x, y)) : (Instr.lookup 87 (.map (some b)) (.agg #[.int .i64 (x : Int), .int .i64 (y : Int)]) true).run Tryz.prog w = .ok (.tuple #[.int .i64 (j : Int), .bool true]) w := by
  obtain ⟨f, hf, hg⟩ := h.mp
  have := h.lo _ (List.mem_of_getElem? hj)
  exact hf.yes (s := (x, y)) ⟨by show x ≤ _; omega, by show y ≤ _; omega⟩ ((hg _ _).2 hj)
theorem Td.no {w : World} {q b : Nat} {v : Value} {K : List (Nat × Nat)} (h : Td w q b v K) {x y : Nat} (hxy : x < y) (hy : y ≤ 1099511627776) (hj : ¬ (x, y) ∈ K) : (Instr.lookup 87 (.map (some b)) (.agg #[.int .i64 (x : Int), .int .i64 (y : Int)]) true).run Tryz.prog w = .ok (.tuple #[.int .i64 0, .bool false]) w := by
  obtain ⟨f, hf, hg⟩ := h.mp
  refine hf.not (s := (x, y)) ⟨by show x ≤ _; omega, by show y ≤ _; omega⟩ ?_
  cases e : f (x, y) with
  | none => rfl
  | some j => exact absurd (List.mem_of_getElem? ((hg _ _).1 e)) hj
set_option maxRecDepth 100000 in
set_option maxHeartbeats 4000000 in
theorem canFold_any : ∀ (n x y : Nat), y - x ≤ n → x < y → y ≤ 1099511627776 → ∀ (w : World) {q b : Nat} {v : Value} {K : List (Nat × Nat)}, Td w q b v K →
    Calls Tryz.prog 75 #[.pointer (some ⟨q, 0, none⟩), sg x y] w fun r w' => r = .returned (.bool (can K (x, y))) ∧ Below w.heap.size w w'
  | 0, x, y, hn, hxy, hy, w, q, b, v, K, h => by omega
  | n + 1, x, y, hn, hxy, hy, w, q, b, v, K, h => by
    have S0 := SpI.new w x y
    have b0 := (Below.refl w.heap.size w).alloc (Nat.le_refl _) (.cells #[.int .i64 (x : Int), .int .i64 (y : Int)] 60)
    have T0 := hid (h.below b0)
    have B0 := hid b0
    have D0 := h.below b0.drew
    have i1 := fun w' => ends_any (x : Int) (y : Int) w'
    obtain ⟨B, hB⟩ : ∃ B, Hid (can K (x, y) = B) := ⟨_, rfl⟩
    rw [hB.out]
    by_cases hk : (x, y) ∈ K
    · obtain ⟨j, hj⟩ := List.getElem?_of_mem hk
      have eB : Hid (B = true) := by unfold Hid; rw [← hB.out]; exact can_mem hxy hk
      have HJ := hid hj
      have x0 := And.intro T0.out.c1 (And.intro S0.c0 (And.intro S0.c1 (D0.yes hj)))
      have HS := hid S0
      clear h b0 D0 hj hk hB S0
      go_enter Tryz.func75, Tryz.ntmps75
      go_wp2
      go_region_held3 (fun w' => w'.cell? ⟨q, 1, none⟩ = some (.map (some b)) ∧ w'.cell? ⟨w.heap.size, 0, none⟩ = some (.int .i64 (x : Int)) ∧ w'.cell? ⟨w.heap.size, 1, none⟩ = some (.int .i64 (y : Int)) ∧ (Instr.lookup 87 (.map (some b)) (.agg #[.int .i64 (x : Int), .int .i64 (y : Int)]) true).run Tryz.prog w' = .ok (.tuple #[.int .i64 (j : Int), .bool true]) w') (first | exact x1 | exact x0) (first | (go_at_call 101; refine (i1 _).mono ?_; rintro r w1 ⟨rfl, b1⟩; have b1 := drewBelow8 b1; have B1 := hid (B0.out.trans (b1.mono B0.out.size)); have x1 := And.intro (T0.out.below b1).c1 (And.intro (HS.out.below b1).c0 (And.intro (HS.out.below b1).c1 ((T0.out.below b1).yes HJ.out))); clear b1))
      go_wp2
      go_ret
      exact ⟨by rw [eB.out]; rfl, B1.out⟩
    · have HK := hid hk
      have x0 := And.intro T0.out.c1 (And.intro S0.c0 (And.intro S0.c1 (D0.no hxy hy hk)))
      have HS := hid S0
      by_cases h2 : y - x < 2
      · have eB : Hid (B = false) := by unfold Hid; rw [← hB.out]; exact can_one hxy hk h2
        have e1 : (y : Int) - (x : Int) = 1 := by omega
        have e2 : IntKind.i64.wrap ((y : Int) - (x : Int)) = 1 := by rw [e1]; rfl
        clear h b0 D0 hk hB S0
        go_enter Tryz.func75, Tryz.ntmps75
        go_wp2
        go_region_held3 (fun w' => w'.cell? ⟨q, 1, none⟩ = some (.map (some b)) ∧ w'.cell? ⟨w.heap.size, 0, none⟩ = some (.int .i64 (x : Int)) ∧ w'.cell? ⟨w.heap.size, 1, none⟩ = some (.int .i64 (y : Int)) ∧ (Instr.lookup 87 (.map (some b)) (.agg #[.int .i64 (x : Int), .int .i64 (y : Int)]) true).run Tryz.prog w' = .ok (.tuple #[.int .i64 0, .bool false]) w') (first | exact x1 | exact x0) (first | (go_at_call 101; refine (i1 _).mono ?_; rintro r w1 ⟨rfl, b1⟩; have b1 := drewBelow8 b1; have B1 := hid (B0.out.trans (b1.mono B0.out.size)); have x1 := And.intro (T0.out.below b1).c1 (And.intro (HS.out.below b1).c0 (And.intro (HS.out.below b1).c1 ((T0.out.below b1).no hxy hy HK.out))); clear b1))
        have d0 := x1.2.1
        have d1 := x1.2.2.1
        go_wp2
        go_ret
        exact ⟨by rw [eB.out]; rfl, B1.out⟩
      · obtain ⟨m, hm⟩ : ∃ m, Hid (m = x + Tree.sp (y - x)) := ⟨_, rfl⟩
        have s1 := Tree.sp_lt (n := y - x) (by omega)
        have s2 := Tree.sp_pos (n := y - x) (by omega)
        have hm1 : x < m := by rw [hm.out]; omega
        have hm2 : m < y := by rw [hm.out]; omega
        have eB : Hid (B = (can K (x, m) && can K (m, y))) := by unfold Hid; rw [← hB.out, can_two hxy hk h2, hm.out]
        have e2 : ¬ IntKind.i64.wrap ((y : Int) - (x : Int)) = 1 := by rw [IntKind.wrap_i64]; omega
        have e1 : ¬ (y : Int) - (x : Int) = 1 := by omega
        have i2 := fun w' => partsC_at x y m (by omega) hy hm w'
        have i3 := fun w' (t : Td w' q b v K) => canFold_any n x m (by omega) hm1 (by omega) w' t
        have i4 := fun w' (t : Td w' q b v K) => canFold_any n m y (by omega) hm2 hy w' t
        generalize can K (x, m) = P at *
        generalize can K (m, y) = Q at *
        clear h b0 D0 hk hB S0 hm s1 s2
        go_enter Tryz.func75, Tryz.ntmps75
        go_wp2
        go_region_held3 (fun w' => w'.cell? ⟨q, 1, none⟩ = some (.map (some b)) ∧ w'.cell? ⟨w.heap.size, 0, none⟩ = some (.int .i64 (x : Int)) ∧ w'.cell? ⟨w.heap.size, 1, none⟩ = some (.int .i64 (y : Int)) ∧ (Instr.lookup 87 (.map (some b)) (.agg #[.int .i64 (x : Int), .int .i64 (y : Int)]) true).run Tryz.prog w' = .ok (.tuple #[.int .i64 0, .bool false]) w') (first | exact x1 | exact x0) (first | (go_at_call 101; refine (i1 _).mono ?_; rintro r w1 ⟨rfl, b1⟩; have b1 := drewBelow8 b1; have B1 := hid (B0.out.trans (b1.mono B0.out.size)); have T1 := hid (T0.out.below b1); have S1 := hid (HS.out.below b1); have x1 := And.intro T1.out.c1 (And.intro S1.out.c0 (And.intro S1.out.c1 (T1.out.no hxy hy HK.out))); clear b1))
        have d0 := x1.2.1
        have d1 := x1.2.2.1
        clear x0 x1 T0 HS B0
        cases P with
        | false =>
          go_wp2_with (first
            | (go_at_call 102; refine (i2 _).mono ?_; rintro r w2 ⟨rfl, b2⟩; have T2 := hid (T1.out.below b2); have B2 := hid (B1.out.trans (b2.mono B1.out.size)); have bA := ((Below.refl w2.heap.size w2).alloc (Nat.le_refl _) (.cells #[.int .i64 (x : Int), .int .i64 (m : Int)] 60)).alloc (by simp) (.cells #[.int .i64 (m : Int), .int .i64 (y : Int)] 60); have TA := hid (T2.out.below bA); have BA := hid (B2.out.trans (bA.mono B2.out.size)); clear b2 bA)
            | (go_at_call 75; refine (i3 _ TA.out).mono ?_; rintro r w3 ⟨rfl, b3⟩; have B3 := hid (BA.out.trans (b3.mono BA.out.size)); clear b3))
          go_ret
          exact ⟨by rw [eB.out]; rfl, B3.out⟩
        | true =>
          go_wp2_with (first
            | (go_at_call 102; refine (i2 _).mono ?_; rintro r w2 ⟨rfl, b2⟩; have T2 := hid (T1.out.below b2); have B2 := hid (B1.out.trans (b2.mono B1.out.size)); have bA := ((Below.refl w2.heap.size w2).alloc (Nat.le_refl _) (.cells #[.int .i64 (x : Int), .int .i64 (m : Int)] 60)).alloc (by simp) (.cells #[.int .i64 (m : Int), .int .i64 (y : Int)] 60); have TA := hid (T2.out.below bA); have BA := hid (B2.out.trans (bA.mono B2.out.size)); have RA := SpI.new (w2.alloc (.cells #[.int .i64 (x : Int), .int .i64 (m : Int)] 60)) (m : Int) (y : Int); rw [size_alloc] at RA; have RA := hid RA; clear b2 bA)
            | (go_at_call 75; (with_reducible refine (i3 _ TA.out).mono ?_); rintro r w3 ⟨rfl, b3⟩; have B3 := hid (BA.out.trans (b3.mono BA.out.size)); have T3 := hid (TA.out.below b3); have R3 := RA.out.below b3; have r0 := R3.c0; have r1 := R3.c1; clear b3 R3 i3)
            | (go_at_call 75; (with_reducible refine (i4 _ T3.out).mono ?_); rintro r w4 ⟨rfl, b4⟩; have B4 := hid (B3.out.trans (b4.mono B3.out.size)); clear b4))
          go_ret
          exact ⟨by rw [eB.out]; cases Q <;> rfl, B4.out⟩
end Chn
end Go.Proofs.YtjcapdkibbjmiaaGreatDoor

namespace Go.Proofs.YtjcapdkibbjmiaaGreatDoor
open Go.RowKit Go.Shelf
def Tnd (L M : List (Nat × Nat)) (i : Nat) : Prop := M.length = L.length ∧ ∀ k, k < L.length → M[k]? = if k < i ∨ L.length ≤ k + i then L[L.length - 1 - k]? else L[k]?
theorem Tnd.start (L : List (Nat × Nat)) : Tnd L L 0 := ⟨rfl, fun k hk => by rw [if_neg (by omega)]⟩
theorem Tnd.done {L M : List (Nat × Nat)} {i : Nat} (h : Tnd L M i) (hi : L.length ≤ 2 * i + 1) : M = L.reverse := by
  refine List.ext_getElem? fun k => ?_
  by_cases hk : k < L.length
  · rw [h.2 k hk, List.getElem?_reverse hk]
    by_cases h2 : k < i ∨ L.length ≤ k + i
    · rw [if_pos h2]
    · rw [if_neg h2, show L.length - 1 - k = k by omega]
  · rw [List.getElem?_eq_none (by rw [h.1]; omega), List.getElem?_eq_none (by rw [List.length_reverse]; omega)]
theorem Tnd.step {L M : List (Nat × Nat)} {i : Nat} (h : Tnd L M i) (hi : 2 * i + 1 < L.length) {p q : Nat × Nat} (hp : M[i]? = some p) (hq : M[L.length - 1 - i]? = some q) : Tnd L ((M.set i q).set (L.length - 1 - i) p) (i + 1) := by
  have h1 := h.2 i (by omega)
  have h2 := h.2 (L.length - 1 - i) (by omega)
  rw [if_neg (by omega), hp] at h1
  rw [if_neg (by omega), hq] at h2
  refine ⟨by rw [List.length_set, List.length_set, h.1], fun k hk => ?_⟩
  by_cases e1 : k = L.length - 1 - i
  · rw [if_pos (by omega), e1, List.getElem?_set_self (by rw [List.length_set, h.1]; omega), h1, show L.length - 1 - (L.length - 1 - i) = i by omega]
  · rw [List.getElem?_set_ne (by omega)]
    by_cases e2 : k = i
    · rw [if_pos (by omega), e2, List.getElem?_set_self (by rw [h.1]; omega), h2]
    · rw [List.getElem?_set_ne (by omega), h.2 k hk]
      by_cases e3 : k < i ∨ L.length ≤ k + i
      · rw [if_pos e3, if_pos (by omega)]
      · rw [if_neg e3, if_neg (by omega)]
theorem prs_set : ∀ (l : List (Nat × Nat)) (j : Nat) (x y : Nat), prs (l.set j (x, y)) = ((prs l).set (j * 2) (.int .i64 (x : Int))).set (j * 2 + 1) (.int .i64 (y : Int))
  | [], j, x, y => by simp [prs]
  | a :: l, 0, x, y => rfl
  | a :: l, j + 1, x, y => by
    have ih := prs_set l j x y
    rw [show (j + 1) * 2 = j * 2 + 1 + 1 from by omega]
    show _ :: _ :: prs (l.set j (x, y)) = _
    rw [ih]; rfl
theorem OwnM.setC {w : World} {g n c m : Nat} {cs : List Value} (h : OwnM m w (.slice (some ⟨g, 0, none⟩) n c) n cs) (j : Nat) (v : Value) (hj : j < cs.length) : OwnM m (w.setCell ⟨g, j, none⟩ v) (.slice (some ⟨g, 0, none⟩) n c) n (cs.set j v) := by
  rcases h with ⟨h, _⟩ | ⟨g', cap', h, h2, h3, h0, h4, h5, h6⟩
  · cases h
  · injection h with e1 e2 e3
    injection e1 with e1
    injection e1 with e1
    subst e1 e3
    refine .inr ⟨g, c, rfl, h2, h3, by rw [List.length_set]; exact h0, fun k u hk => ?_, fun k hk => ?_, by rw [show (w.setCell ⟨g, j, none⟩ v).heap.size = w.heap.size from by simp [World.setCell]]; exact h6⟩
    · rw [Nat.zero_add]
      by_cases e : k = j
      · subst e
        rw [List.getElem?_set_self hj] at hk
        injection hk with hk
        subst hk
        have := h4 k (cs[k]'hj) (by simp)
        rw [Nat.zero_add] at this
        exact World.cell?_setCell_same' _ _ _ (by rw [this]; rfl)
      · rw [List.getElem?_set_ne (by omega)] at hk
        have := h4 k u hk
        rw [Nat.zero_add] at this
        rw [World.cell?_setCell_other w _ _ _ (fun q => e (by injection q with _ q; exact q.symm))]
        exact this
    · have := h5 k hk
      refine ⟨?_, ?_⟩
      · by_cases e : 0 + k = j
        · rw [e] at this ⊢
          rw [World.cell?_setCell_same' w ⟨g, j, none⟩ v this.1]; rfl
        · rw [World.cell?_setCell_other w _ _ _ (fun q => e (by injection q with _ q; exact q.symm))]
          exact this.1
      · rw [World.frozen?_setCell]; exact this.2
end Go.Proofs.YtjcapdkibbjmiaaGreatDoor

namespace Go.Proofs.YtjcapdkibbjmiaaGreatDoor
open Go.RowKit Go.Shelf
theorem getD_of {l : List (Nat × Nat)} {k : Nat} (h : k < l.length) : ∃ x y, l[k]? = some (x, y) := ⟨(l[k]'h).1, (l[k]'h).2, by rw [List.getElem?_eq_getElem h]⟩
set_option maxRecDepth 100000 in
set_option maxHeartbeats 8000000 in
theorem rev_any (L : List (Nat × Nat)) (v : Value) (w : World) (h : OwnP w v L) (hl : L.length ≤ 1099511627776) :
    Calls Tryz.prog 117 #[v] w fun r w' => r = .returned (.tuple #[]) ∧ OwnP w' v L.reverse ∧ Keep (fun k => v.ownBlock = some k) w w' := by
  obtain ⟨a, c, rfl, hc1, hc2⟩ := h.shape
  obtain ⟨n, hn⟩ : ∃ n, Hid (L.length = n) := ⟨_, rfl⟩
  rw [hn.out] at hc1 hl
  have hO := hid h
  unfold Hid OwnP at hO
  rw [hn.out] at hO ⊢
  have hO : Hid (OwnM 2 w (.slice a n c) n (prs L)) := hO
  clear h
  go_enter Tryz.func117, Tryz.ntmps117
  go_wp2
  go_loopw [2, 3] (fun vi vj wr => ∃ (i : Nat) (M : List (Nat × Nat)), vi = .int .i64 (i : Int) ∧ vj = .int .i64 ((n : Int) - 1 - (i : Int)) ∧ (i : Int) ≤ (n : Int) ∧ Hid (Tnd L M i) ∧ Hid (OwnM 2 wr (.slice a n c) n (prs M)) ∧ Hid (Keep (fun k => (Value.slice a n c).ownBlock = some k) w wr)) (fun vi _ _ => n - (intOf vi).toNat)
  case atStart =>
    exact ⟨0, L, rfl, by go_num, by omega, Tnd.start L, hO, Keep.refl _ _⟩
  case round =>
    clear hO
    obtain ⟨i, M, rfl, rfl, hi, hT, hO, hK⟩ := hrel
    by_cases hij : (i : Int) < (n : Int) - 1 - (i : Int)
    · have hT1 := hT.out.1
      rw [hn.out] at hT1
      obtain ⟨j, hj⟩ : ∃ j : Nat, (n : Int) - 1 - (i : Int) = (j : Int) := ⟨n - 1 - i, by omega⟩
      rw [hj] at hij ⊢
      obtain ⟨p1, p2, hp⟩ := getD_of (l := M) (k := i) (by omega)
      obtain ⟨q1, q2, hq⟩ := getD_of (l := M) (k := j) (by omega)
      obtain ⟨g, c', e1, ci0, _⟩ := hO.out.cell (prs_get hp).1
      injection e1 with e1 _ e3
      subst e1 e3
      have cellOf : ∀ {k : Nat} {u : Value}, (prs M)[k]? = some u → wr.cell? ⟨g, k, none⟩ = some u ∧ wr.frozen? ⟨g, k, none⟩ = false := fun {k u} hk => by
        rcases hO.out with ⟨h, _⟩ | ⟨g', cap', h, h2, h3, h0, h4, h5, h6⟩
        · cases h
        · injection h with e1 e2 e3
          injection e1 with e1
          injection e1 with e1
          subst e1 e3
          have a1 := h4 k u hk
          have a2 := h5 k (by have := (List.getElem?_eq_some_iff.1 hk).1; omega)
          rw [Nat.zero_add] at a1 a2
          exact ⟨a1, a2.2⟩
      have x0 := (cellOf (prs_get hp).1).1
      have x1 := (cellOf (prs_get hp).2).1
      have y0 := (cellOf (prs_get hq).1).1
      have y1 := (cellOf (prs_get hq).2).1
      have fx0 := (cellOf (prs_get hp).1).2
      have fx1 := (cellOf (prs_get hp).2).2
      have fy0 := (cellOf (prs_get hq).1).2
      have fy1 := (cellOf (prs_get hq).2).2
      have x0d : wr.drew.cell? ⟨g, i * 2, none⟩ = _ := x0
      have x1d : wr.drew.cell? ⟨g, i * 2 + 1, none⟩ = _ := x1
      have y0d : wr.drew.cell? ⟨g, j * 2, none⟩ = _ := y0
      have y1d : wr.drew.cell? ⟨g, j * 2 + 1, none⟩ = _ := y1
      have i0 : (0 : Int) ≤ (i : Int) := by omega
      have i1 : (i : Int) < (n : Int) := by omega
      have j0 : (0 : Int) ≤ (j : Int) := by omega
      have j1 : (j : Int) < (n : Int) := by omega
      have nij : ¬ i = j := by omega
      have nji : ¬ j = i := by omega
      clear cellOf hT1
      go_wp2
      go_region
      have O2 : Hid (OwnM 2 (((((wr.setCell ⟨g, i * 2, none⟩ (.int .i64 (q1 : Int))).setCell ⟨g, i * 2 + 1, none⟩ (.int .i64 (q2 : Int))).setCell ⟨g, j * 2, none⟩ (.int .i64 (p1 : Int))).setCell ⟨g, j * 2 + 1, none⟩ (.int .i64 (p2 : Int))).drew) (.slice (some ⟨g, 0, none⟩) n c) n (prs ((M.set i (q1, q2)).set j (p1, p2)))) := by
        have hpl : (prs M).length = n * 2 := by have := hO.out.len; exact this
        unfold Hid
        rw [prs_set, prs_set]
        exact ((((hO.out.setC (i * 2) _ (by omega)).setC (i * 2 + 1) _ (by rw [List.length_set]; omega)).setC (j * 2) _ (by rw [List.length_set, List.length_set]; omega)).setC (j * 2 + 1) _ (by rw [List.length_set, List.length_set, List.length_set]; omega))
      have K2 : Hid (Keep (fun k => (Value.slice (some ⟨g, 0, none⟩) n c).ownBlock = some k) w (((((wr.setCell ⟨g, i * 2, none⟩ (.int .i64 (q1 : Int))).setCell ⟨g, i * 2 + 1, none⟩ (.int .i64 (q2 : Int))).setCell ⟨g, j * 2, none⟩ (.int .i64 (p1 : Int))).setCell ⟨g, j * 2 + 1, none⟩ (.int .i64 (p2 : Int))).drew)) := by
        have k1 : ∀ (W : World) (o : Nat) (u : Value), Keep (fun k => (Value.slice (some ⟨g, 0, none⟩) n c).ownBlock = some k) W (W.setCell ⟨g, o, none⟩ u) := fun W o u => Keep.ofSet W g o u rfl
        have k2 := (((hK.out.trans (k1 _ (i * 2) (.int .i64 (q1 : Int))) fun _ _ h => h).trans (k1 _ (i * 2 + 1) (.int .i64 (q2 : Int))) fun _ _ h => h).trans (k1 _ (j * 2) (.int .i64 (p1 : Int))) fun _ _ h => h).trans (k1 _ (j * 2 + 1) (.int .i64 (p2 : Int))) fun _ _ h => h
        exact ⟨k2.os, k2.tape, k2.output, k2.size, k2.block⟩
      have T2 : Hid (Tnd L ((M.set i (q1, q2)).set j (p1, p2)) (i + 1)) := by
        have e : L.length - 1 - i = j := by rw [hn.out]; omega
        have := hT.out.step (p := (p1, p2)) (q := (q1, q2)) (by rw [hn.out]; omega) hp (by rw [e]; exact hq)
        rw [e] at this
        exact this
      clear x0 x1 y0 y1 fx0 fx1 fy0 fy1 x0d x1d y0d y1d ci0 hO hT hK
      generalize ((((wr.setCell ⟨g, i * 2, none⟩ (.int .i64 (q1 : Int))).setCell ⟨g, i * 2 + 1, none⟩ (.int .i64 (q2 : Int))).setCell ⟨g, j * 2, none⟩ (.int .i64 (p1 : Int))).setCell ⟨g, j * 2 + 1, none⟩ (.int .i64 (p2 : Int))).drew = w2 at *
      go_wp2
      exact ⟨⟨i + 1, _, by go_num, by go_num, by omega, T2, O2, K2⟩, by simp [intOf]; omega⟩
    · go_wp2
      go_end0
      have e := hT.out.done (by rw [hn.out]; omega)
      subst e
      refine ⟨rfl, ?_, hK.out⟩
      unfold OwnP
      rw [List.length_reverse, hn.out]
      exact hO.out
end Go.Proofs.YtjcapdkibbjmiaaGreatDoor

namespace Go.Proofs.YtjcapdkibbjmiaaGreatDoor
open Go.RowKit
def OnlyN (Q : Exit → Act → World → Prop) : Exit → Act → World → Prop
  | .normal, a, w => Q .normal a w
  | _, _, _ => False
theorem OnlyN.out {Q : Exit → Act → World → Prop} : ¬ LetsOut (OnlyN Q) := fun ⟨_, _, h⟩ => h
theorem oper_in {l n : Nat} {P : Program} {o : Oper} {a : Act} {w : World} {K : Act → World → Prop} {Q : Exit → Act → World → Prop} (hd : ∀ c, o.op ≠ .defer c)
    (h : o.wp P a w K (OnlyN Q)) : o.wpIn (Fence.wide.inRound l) n P a w K Q := by
  refine ⟨fun _ _ => trivial, ?_⟩
  have e : o.semAt (Fence.wide.inRound l).round a.eval = execOp a.eval o := Oper.semAt_eq _ _ _ hd
  rw [e]
  unfold Oper.wp at h
  generalize (execOp a.eval o).run P w = r at *
  cases r with
  | ok x w' =>
    cases x <;> simp only [Oper.upon, Oper.uponIn] at h ⊢
    case value v => exact h
    case skip => exact h
    case defer d => exact h
    case enter f args =>
      refine ⟨fun h => (by cases h), CallsIn.inRound l ((callsIn_wide.2 h).mono fun e w'' he => ?_)⟩
      cases e with
      | returned v => exact he
      | panicked c => exact he.elim
      | outgrown => exact (OnlyN.out he).elim
    case row row args =>
      refine ⟨fun h => (by cases h), fun c cs _ => ?_⟩
      obtain ⟨v, w'', hv, hs⟩ := h c cs
      exact ⟨v, w'', hv, stepsIn_wide.2 hs⟩
  | halt x w' =>
    cases x <;> simp only [Oper.upon, Oper.uponIn] at h ⊢
    exact h.elim
theorem wpOp_in {l n : Nat} {P : Program} {ops : Array Oper} {i : Nat} {a : Act} {w : World} {K : Act → World → Prop} {Q : Exit → Act → World → Prop} (hd : ∀ (j : Nat) (o : Oper) c, ops[j]? = some o → o.op ≠ .defer c)
    (h : wpOp P ops (OnlyN Q) i K a w) : wpOpIn (Fence.wide.inRound l) n P ops Q i K a w := by
  unfold wpOp at h
  unfold wpOpIn
  cases ho : ops[i]? with
  | none => rw [ho] at h; exact h
  | some o =>
    simp only [ho] at h ⊢
    split
    · rename_i hw
      simp only [hw, if_true] at h
      rcases h with h | ⟨_, h⟩
      · exact oper_in (fun c => hd i o c ho) h
      · exact (OnlyN.out h).elim
    · rename_i hw
      simp only [hw] at h
      exact ⟨fun _ _ => trivial, h⟩
theorem wpAny_in {l n : Nat} {P : Program} {ops : Array Oper} {md : Region.Mode} {Q : Exit → Act → World → Prop} (hd : ∀ (j : Nat) (o : Oper) c, ops[j]? = some o → o.op ≠ .defer c) :
    ∀ (fuel : Nat) (listed : Array Bool) (a : Act) (w : World), wpAny P md ops (OnlyN Q) fuel listed a w → wpAnyIn (Fence.wide.inRound l) n P md ops Q fuel listed a w
  | 0, _, _, _, h => h
  | fuel + 1, _, _, _, h => ⟨h.1, fun i hi => wpOp_in hd (wpOp_mono (fun a w h => wpAny_in hd fuel _ a w h) (h.2 i hi))⟩
theorem round_held {l n id : Nat} {P : Program} {ops : Array Oper} {Q : Exit → Act → World → Prop} {S : World → Prop} {a : Act} {w : World} (hm : P.follows .mixedOrders = true)
    (hd : ∀ (j : Nat) (o : Oper) c, ops[j]? = some o → o.op ≠ .defer c) (hS : S w.drew)
    (h : S w.drew → wpAnyH P .any ops (OnlyN Q) S ops.size (Array.replicate ops.size false) a w.drew) : (Code.region id ops true).wpIn (Fence.wide.inRound l) n P Q a w :=
  wpIn_region_any hm (wpAny_in hd _ _ _ _ (wpAny_of_held _ _ _ _ (h hS)))
theorem noDefer {ops : Array Oper} (h : (ops.toList.all fun o => match o.op with | .defer _ => false | _ => true) = true) : ∀ (j : Nat) (o : Oper) c, ops[j]? = some o → o.op ≠ .defer c := fun j o c hj he => by
  have hm : o ∈ ops.toList := by
    rw [Array.mem_toList_iff]
    exact Array.mem_of_getElem? hj
  have := List.all_eq_true.1 h o hm
  rw [he] at this
  cases this
theorem wpListIn_append_run {F : Fence} {n : Nat} {P : Program} {ops : Array Oper} {rest : List Oper} {o : Oper} {a : Act} {w : World} {Q : Exit → Act → World → Prop}
    (hg : o.guard = none) (s x : Operand) (t : TypeId) (hop : o.op = Op.call { callee := Callee.builtin Builtin.append, args := #[s, x], argTypes := #[t, t] })
    (v1 v2 v' : Value) (w' : World) (hs : a.eval s = v1) (hx : a.eval x = v2) (hrun : (Builtin.append_ #[t, t] o.type #[v1, v2]).run P w = .ok v' w') (hK : wpListIn F n P ops Q rest (a.put o.dst v') w') :
    wpListIn F n P ops Q (o :: rest) a w := by
  refine wpListIn_plain hg fun K hK' => ?_
  unfold Oper.wpIn
  refine ⟨?_, ?_⟩
  · simp [Oper.about, hop, resolve, Target.leads, Sem.run_pure]
  · rw [Oper.semAt_plain F _ _ (by rw [hop]; intro c hc'; cases hc')]
    simp [execOp, hop, resolve, invoke, builtin, hs, hx, hrun, Result.andThen]
    exact hK' _ _ hK
end Go.Proofs.YtjcapdkibbjmiaaGreatDoor

namespace Go.Proofs.YtjcapdkibbjmiaaGreatDoor
open Go.RowKit Go.Shelf
attribute [local go_sem] Oper.semAt_some
theorem ownM_sl {m : Nat} {w : World} {v : Value} {n : Nat} {cs : List Value} (h : OwnM m w v n cs) : ∃ a k c, v = .slice a k c := by
  obtain ⟨a, c, rfl, _⟩ := h.shape
  exact ⟨a, n, c, rfl⟩
def SpP (w : World) (c : Int) (L : List (Nat × Nat)) (r : Ending) (w' : World) : Prop :=
  Below w.heap.size w w' ∧ ∃ v, r = .returned (.tuple #[v, .int .i64 c]) ∧ OwnP w' v L ∧ ∀ k, v.ownBlock = some k → w.heap.size ≤ k
structure PthI (gi gb : Nat) (i : Int) (F : Nat → Prop) (L : List (Nat × Nat)) (v : Value) (W : World) : Prop where
  F : F = fun k => k = gi ∨ Col.F gb v k
  bi : Boxed W gi 3 (.int .i64 i)
  col : Col W gb 47 v L
  ne : v.ownBlock ≠ some gi
theorem PthI.keep {gi gb : Nat} {i : Int} {F : Nat → Prop} {L : List (Nat × Nat)} {v : Value} {W W' : World} {S : Nat → Prop} (h : PthI gi gb i F L v W) (hk : Keep S W W') (hs : ∀ k, F k → ¬ S k) : PthI gi gb i F L v W' := by
  have hF := h.F
  subst hF
  exact ⟨rfl, h.bi.keepF hk (hs _ (.inl rfl)), h.col.keep hk fun k e => hs k (.inr e), h.ne⟩
theorem PthI.below {gi gb : Nat} {i : Int} {F : Nat → Prop} {L : List (Nat × Nat)} {v : Value} {W W' : World} (h : PthI gi gb i F L v W) (hk : Below W.heap.size W W') : PthI gi gb i F L v W' := h.keep (Keep.ofBelow (S := fun _ => False) hk) fun _ _ e => e
theorem PthI.lt {gi gb : Nat} {i : Int} {F : Nat → Prop} {L : List (Nat × Nat)} {v : Value} {W : World} (h : PthI gi gb i F L v W) : ∀ k, F k → k < W.heap.size := by
  have hF := h.F
  subst hF
  rintro k (rfl | e)
  · exact h.bi.lt
  · exact h.col.lt k e
theorem PthI.push {gi gb : Nat} {i : Int} {F : Nat → Prop} {L L' : List (Nat × Nat)} {v v' : Value} {W w' : World} (h : PthI gi gb i F L v W) (hgb : gi ≠ gb) (h1 : OwnP w' v' L') (g : Grow W w' v v') :
    Boxed w' gb 47 v ∧ PthI gi gb i (fun k => k = gi ∨ Col.F gb v' k) L' v' (w'.setCell ⟨gb, 0, none⟩ v') ∧ Mvs F W (w'.setCell ⟨gb, 0, none⟩ v') (fun k => k = gi ∨ Col.F gb v' k) := by
  obtain ⟨b1, c1, m1⟩ := h.col.push h1 g
  have hne : v'.ownBlock ≠ some gi := fun e => by
    rcases m1.new gi (.inr e) with (q | q) | q
    · exact hgb q
    · exact h.ne q
    · have := h.bi.lt; omega
  have hF := h.F
  subst hF
  refine ⟨b1, ⟨rfl, ?_, c1, hne⟩, m1.keep.mono fun k _ e => .inr e, ?_⟩
  · refine h.bi.keepF m1.keep fun e => ?_
    rcases e with e | e
    · exact hgb e
    · exact h.ne e
  · rintro k (e | e)
    · exact .inl (.inl e)
    · rcases m1.new k e with q | q
      · exact .inl (.inr q)
      · exact .inr q
end Go.Proofs.YtjcapdkibbjmiaaGreatDoor
