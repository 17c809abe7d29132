import Derived.Test.YtkamjpjmdibfgaaPkKR3
import Derived.Deep.CutRange
import Derived.Deep.DeepCutAuto
/- Layer 15, the document's cache: New, Get -/
namespace Go.Proofs.Ytkamjpjmdibfgaa
open Go.RowKit Go.Maps
namespace Kc
theorem fnd_at {k : List UInt8} {X Y : List En} {e : En} (he : e.k = k) (hX : ∀ x ∈ X, x.k ≠ k) : fnd k (X ++ e :: Y) = some e ∧ wo k (X ++ e :: Y) = X ++ Y ∧ ∀ q, rp k q (X ++ e :: Y) = X ++ re e q :: Y := by
  induction X with
  | nil => exact ⟨fnd_cons_eq he, by simp [wo, he], fun q => by simp [rp, he, re]⟩
  | cons x X ih =>
    obtain ⟨h1, h2, h3⟩ := ih fun y hy => hX y (List.mem_cons_of_mem _ hy)
    have hx := hX x (List.mem_cons_self ..)
    exact ⟨by rw [List.cons_append, fnd_cons_ne hx]; exact h1, by simp [wo, hx, h2], fun q => by simp [rp, hx, h3]⟩
theorem er_mid (X Y : List En) (e : En) : er X.length (X ++ e :: Y).length (X ++ e :: Y) = X ++ Y := by
  unfold er
  rw [List.take_of_length_le (Nat.le_refl _), List.eraseIdx_append_of_length_le (Nat.le_refl _), Nat.sub_self]
  rfl
theorem er_all {t : Nat} {L : List En} (h : L.length ≤ t) : er t L.length L = L := by
  unfold er
  rw [List.take_of_length_le (Nat.le_refl _), List.eraseIdx_of_length_le h]
/-- the blocks of the document's cache -/
def Fr (a : Nat) (v : Value) (k : Nat) : Prop := k = a ∨ v.ownBlock = some k
/-- what a call has done -/
structure Ro (w : World) (a B : Nat) (v : Value) (w' : World) (L' : List En) (f' m' o' : Nat) : Prop where
  rf : ∃ v', Rf w' a B v' L' f' m' o' ∧ ∀ k, Fr a v' k → Fr a v k ∨ w.heap.size ≤ k
  kp : Keep (Fr a v) w w'
theorem Rf.lt {w : World} {a B : Nat} {v : Value} {L : List En} {f m o : Nat} (h : Rf w a B v L f m o) : ∀ k, Fr a v k → k < w.heap.size := by
  rintro k (rfl | hk)
  · exact lt_of_heap h.row
  · exact h.own.lt k hk
theorem Rf.keep {S : Nat → Prop} {w w' : World} {a B : Nat} {v : Value} {L : List En} {f m o : Nat} (h : Rf w a B v L f m o) (hk : Keep S w w') (hS : ∀ k, Fr a v k → ¬ S k) : Rf w' a B v L f m o :=
  ⟨(hk.block a (h.lt a (.inl rfl)) (hS a (.inl rfl))).trans h.row, h.own.kept hk.size fun g hg => hk.block g (h.own.lt g hg) (hS g (.inr hg)), h.ne⟩
theorem Rf.below {w w' : World} {a B : Nat} {v : Value} {L : List En} {f m o : Nat} (h : Rf w a B v L f m o) (hb : Below w.heap.size w w') : Rf w' a B v L f m o :=
  ⟨(hb.block a (h.lt a (.inl rfl))).trans h.row, h.own.below hb, h.ne⟩
set_option maxRecDepth 100000 in
theorem rnew_bad (n : Int) (h : n < 0 ∨ 16777216 < n) (w : World) :
    Calls Try.prog 6 #[.int .i64 n] w fun r w' => r = .returned (.tuple #[.pointer none, .int .i64 150]) ∧ w' = w := by
  go_enter Try.func6, Try.ntmps6
  by_cases h0 : n < 0
  · go_wp2
    go_ret2
    exact ⟨rfl, rfl⟩
  · have h1 : 16777216 < n := by omega
    clear h
    go_wp2
    go_ret2
    exact ⟨rfl, rfl⟩
set_option maxRecDepth 100000 in
theorem rnew_ok (B : Nat) (hB : B ≤ 16777216) (w : World) :
    Calls Try.prog 6 #[.int .i64 (B : Int)] w fun r w' => r = .returned (.tuple #[.pointer (some ⟨w.heap.size, 0, none⟩), .int .i64 0]) ∧ Rf w' w.heap.size B (.slice none 0 0) [] 0 0 0 ∧ Below w.heap.size w w' := by
  have h1 : ¬ (B : Int) < 0 := by omega
  have h2 : ¬ 16777216 < (B : Int) := by omega
  go_enter Try.func6, Try.ntmps6
  go_wp2
  go_ret2
  exact ⟨rfl, ⟨heap_alloc_new w _, OwnM.nil 3 _, (by intro h; cases h)⟩, (Below.refl _ _).alloc (Nat.le_refl _) _⟩
theorem ro_first {w w1 w2 : World} {a B : Nat} {v v' : Value} {L' : List En} {f m o : Nat} (hk : Keep (Fr a v) w w1) (h2 : Rf w2 a B v' L' f m o) (hf : ∀ k, v'.ownBlock = some k → w1.heap.size ≤ k) (k2 : Keep (fun k => k = a) w1 w2) : Ro w a B v w2 L' f m o := by
  refine ⟨⟨v', h2, fun k hk' => ?_⟩, keep_trans hk (keep_mono k2 fun k hk => .inl hk)⟩
  rcases hk' with rfl | h
  · exact .inl (.inl rfl)
  · exact .inr (Nat.le_trans hk.size (hf k h))
theorem ro_below {w w' : World} {a B : Nat} {v : Value} {L : List En} {f m o : Nat} (h : Rf w a B v L f m o) (hb : Below w.heap.size w w') : Ro w a B v w' L f m o := ⟨⟨v, h.below hb, fun _ hk => .inl hk⟩, keep_below hb⟩
theorem Rr.set {w : World} {a B : Nat} {v : Value} {f m o : Nat} (h : Rr w a B v f m o) (f' : Nat) : Rr (w.setCell ⟨a, 2, none⟩ (.int .i64 (f' : Int))) a B v f' m o := by
  unfold Rr at *
  rw [heap_setCell_same _ _ _ _ _ _ h]; rfl
set_option maxRecDepth 100000 in
set_option maxHeartbeats 4000000 in
theorem rget_none {w : World} {a B : Nat} {v : Value} {L : List En} {f m o : Nat} (h : Rf w a B v L f m o) (hl : L.length ≤ 1000000) (hm : m ≤ 1000000000000) (k : List UInt8) (hf : fnd k L = none) :
    Calls Try.prog 13 #[.pointer (some ⟨a, 0, none⟩), .string ⟨k.toArray⟩] w fun r w' => r = .returned (.tuple #[.string ⟨#[]⟩, .bool false]) ∧ Ro w a B v w' L f (m + 1) o := by
  have i1 := rfind_any h hl k
  have c3 := h.cs.2.2.2.1
  have f3 : w.frozen? ⟨a, 3, none⟩ = false := frozen_of_row _ _ _ _ _ h.row
  have e3 : IntKind.i64.wrap ((m : Int) + 1) = ((m + 1 : Nat) : Int) := by rw [IntKind.wrap_i64]; omega
  have P : Hid (Ro w a B v (w.setCell ⟨a, 3, none⟩ (.int .i64 ((m + 1 : Nat) : Int))) L f (m + 1) o) := by
    refine ⟨⟨v, ⟨by rw [heap_setCell_same _ _ _ _ _ _ h.row]; rfl, h.own.kept (by simp [World.setCell]) fun g hg => heap_setCell_other _ _ _ _ (fun (e : g = a) => h.ne (e ▸ hg)), h.ne⟩, fun _ hk => .inl hk⟩, keep_set (keep_refl _ _) (.inl rfl) _ _⟩
  have HF := hid hf
  clear h hl hf
  generalize (ByteArray.mk k.toArray) = K at *
  go_enter Try.func13, Try.ntmps13
  go_wp2_with (go_at_call 39; refine i1.mono ?_; rintro r w1 ⟨hw1, hc⟩; replace hw1 := hw1.symm; subst hw1; have hc : r = .returned (.int .i64 (-1)) := (by rcases hc with ⟨_, h⟩ | ⟨X, Y, e, hL, he, hX, _⟩; { exact h }; { have := HF.out; rw [hL, (fnd_at he hX).1] at this; cases this }); subst hc)
  go_ret2
  exact ⟨rfl, P.out⟩
end Kc
end Go.Proofs.Ytkamjpjmdibfgaa

/- Layer 15, the document's cache: Get of what is there -/
namespace Go.Proofs.Ytkamjpjmdibfgaa
open Go.RowKit Go.Maps
namespace Kc
set_option maxRecDepth 100000 in
set_option maxHeartbeats 4000000 in
theorem rget_some {w : World} {a B : Nat} {v : Value} {L : List En} {f m o : Nat} (h : Rf w a B v L f m o) (hl : L.length ≤ 1000000) (hm : f ≤ 1000000000000) (k : List UInt8) {e : En} (hf : fnd k L = some e) :
    Calls Try.prog 13 #[.pointer (some ⟨a, 0, none⟩), .string ⟨k.toArray⟩] w fun r w' => r = .returned (.tuple #[.string ⟨e.v.toArray⟩, .bool true]) ∧ Ro w a B v w' (e :: wo k L) (f + 1) m o := by
  have i1 := rfind_any h hl k
  obtain ⟨X, Y, hL, hek, hwo, _, hX⟩ := fnd_split hf
  have c2 := h.cs.2.2.1
  have f2 : w.frozen? ⟨a, 2, none⟩ = false := frozen_of_row _ _ _ _ _ h.row
  obtain ⟨f1, hf1⟩ : ∃ f1, f + 1 = f1 := ⟨_, rfl⟩
  rw [hf1]
  have e2 : IntKind.i64.wrap ((f : Int) + 1) = (f1 : Int) := by rw [IntKind.wrap_i64]; omega
  clear hm hf1
  rw [hwo]
  subst hL
  have hXY : ∀ X' Y' e', X ++ e :: Y = X' ++ e' :: Y' → e'.k = k → (∀ x ∈ X', x.k ≠ k) → X'.length = X.length := by
    intro X' Y' e' he hk' hX'
    rcases Nat.lt_trichotomy X'.length X.length with c | c | c
    · exfalso
      have h1 : (X ++ e :: Y)[X'.length]? = some e' := by rw [he, List.getElem?_append_right (Nat.le_refl _), Nat.sub_self]; rfl
      rw [List.getElem?_append_left c] at h1
      exact hX e' (List.mem_of_getElem? h1) hk'
    · exact c
    · exfalso
      have h1 : (X' ++ e' :: Y')[X.length]? = some e := by rw [← he, List.getElem?_append_right (Nat.le_refl _), Nat.sub_self]; rfl
      rw [List.getElem?_append_left c] at h1
      exact hX' e (List.mem_of_getElem? h1) hek
  have i1' : Calls Try.prog 39 #[.pointer (some ⟨a, 0, none⟩), .string ⟨k.toArray⟩] w fun r w' => r = .returned (.int .i64 (X.length : Int)) ∧ w' = w := i1.mono fun r w' ⟨hw, hc⟩ => by
    refine ⟨?_, hw⟩
    rcases hc with ⟨h0, _⟩ | ⟨X', Y', e', he, hk', hX', hr⟩
    · rw [hf] at h0; cases h0
    · rw [hr, hXY X' Y' e' he hk' hX']
  have R1 : Rf (w.setCell ⟨a, 2, none⟩ (.int .i64 (f1 : Int))) a B v (X ++ e :: Y) f1 m o := ⟨by rw [heap_setCell_same _ _ _ _ _ _ h.row]; rfl, h.own.kept (by simp [World.setCell]) fun g hg => heap_setCell_other _ _ _ _ (fun (e : g = a) => h.ne (e ▸ hg)), h.ne⟩
  have K1 : Hid (Keep (Fr a v) w (w.setCell ⟨a, 2, none⟩ (.int .i64 (f1 : Int)))) := keep_set (keep_refl _ _) (.inl rfl) _ _
  obtain ⟨g, cap, hv, k0, k1, k2, hgl⟩ := ownM_e R1.own
  have c1 := R1.cs.2.1
  have y1 : (X.length : Int) < ((X ++ e :: Y).length : Int) := by simp; omega
  have y3 : (0 : Int) ≤ (X.length : Int) := by omega
  have y4 : ¬ (X.length : Int) < 0 := by omega
  have hl2 := hl
  subst hv
  have HL := hid hl
  have HV := hid R1
  obtain ⟨n, hn⟩ : ∃ n, (X ++ e :: Y).length = n := ⟨_, rfl⟩
  rw [hn] at c1 y1
  obtain ⟨t, ht⟩ : ∃ t, X.length = t := ⟨_, rfl⟩
  have HTT := hid ht
  rw [ht] at y1 y3 y4 k0 k1 k2 i1'
  have y5 : decide ((t : Int) < 0) = false := decide_eq_false y4
  clear i1 h hf hXY hX hek hwo R1 hn ht hl hl2
  generalize (ByteArray.mk k.toArray) = K at *
  go_enter Try.func13, Try.ntmps13
  go_upto_region 7 with (go_at_call 39; (with_reducible refine i1'.mono ?_); rintro r w9 ⟨rfl, hw9⟩; replace hw9 := hw9.symm; subst hw9)
  have hsz := size_alloc (w.setCell ⟨a, 2, none⟩ (.int .i64 (f1 : Int))) (.cells #[.string ⟨e.k.toArray⟩, .string ⟨e.v.toArray⟩, .int .i64 (e.p : Int)] 79)
  obtain ⟨w2, hw2⟩ : ∃ w2, w.setCell ⟨a, 2, none⟩ (.int .i64 (f1 : Int)) = w2 := ⟨_, rfl⟩
  rw [hw2] at HV K1 k0 k1 k2 hgl hsz ⊢
  obtain ⟨q, hq⟩ : ∃ q, w2.heap.size = q := ⟨_, rfl⟩
  have r3 := heap_alloc_at w2 (.cells #[.string ⟨e.k.toArray⟩, .string ⟨e.v.toArray⟩, .int .i64 (e.p : Int)] 79) q hq
  have b3 : Below w2.heap.size w2 (w2.alloc (.cells #[.string ⟨e.k.toArray⟩, .string ⟨e.v.toArray⟩, .int .i64 (e.p : Int)] 79)) := (Below.refl _ _).alloc (Nat.le_refl _) _
  have sz2 : w.heap.size = q := by rw [← hq, ← hw2]; simp [World.setCell]
  obtain ⟨w3, hw3⟩ : ∃ w3, w2.alloc (.cells #[.string ⟨e.k.toArray⟩, .string ⟨e.v.toArray⟩, .int .i64 (e.p : Int)] 79) = w3 := ⟨_, rfl⟩
  rw [hw3] at r3 b3 hsz ⊢
  have R3 := HV.out.below b3
  have iW := rwithout_any (w := w3.drew) (show Rf w3.drew a B (.slice (some ⟨g, 0, none⟩) (X ++ e :: Y).length cap) (X ++ e :: Y) f1 m o from ⟨R3.row, R3.own, R3.ne⟩) HL.out (t : Int) t (.inl rfl)
  have her : er t (X ++ e :: Y).length (X ++ e :: Y) = X ++ Y := by rw [← HTT.out]; exact er_mid X Y e
  rw [her] at iW
  have c0' : w3.cell? ⟨q, 0, none⟩ = some (.string ⟨e.k.toArray⟩) := by rw [cell_of_row _ _ _ _ _ _ r3]; rfl
  have c1' : w3.cell? ⟨q, 1, none⟩ = some (.string ⟨e.v.toArray⟩) := by rw [cell_of_row _ _ _ _ _ _ r3]; rfl
  have c2' : w3.cell? ⟨q, 2, none⟩ = some (.int .i64 (e.p : Int)) := by rw [cell_of_row _ _ _ _ _ _ r3]; rfl
  have hXY : Hid ((X ++ Y).length ≤ 1000000) := by
    show _ ≤ _
    have := HL.out
    simp at this ⊢
    omega
  have HR3 := hid R3
  have hr3 := hid r3
  have aq : Hid (a < q) := by show a < q; rw [← hq]; exact HV.out.lt a (.inl rfl)
  have K3 : Hid (Keep (Fr a (.slice (some ⟨g, 0, none⟩) (X ++ e :: Y).length cap)) w w3) := keep_trans K1.out (keep_below b3)
  have hsz' := hid hsz
  have hq' := hid hq
  rw [hq] at hsz
  clear her R3 r3 b3 k0 k1 k2 hgl hw2 hw3 HV K1 hq
  rw [sz2]
  have SZ := hid sz2
  clear sz2
  go_cut [] (fun w5 => Hid (∃ v', Rf w5 a B v' (e :: (X ++ Y)) f1 m o ∧ (∀ k, v'.ownBlock = some k → w3.heap.size ≤ k) ∧ Keep (fun k => k = a) w3 w5))
  case first =>
    go_region_with (first
      | (go_at_call 41; (with_reducible refine iW.mono ?_); rintro r w4 ⟨v4, rfl, O4, F4, b4⟩; have Rr4 : Rr w4 a B (.slice (some ⟨g, 0, none⟩) (X ++ e :: Y).length cap) f1 m o := ((b4.block a (by show a < w3.heap.size; have := aq.out; omega)).trans HR3.out.row); have iF := rfirst_any Rr4 e O4 hXY.out; have d0 := (b4.cell (p := ⟨q, 0, none⟩) (lt_of_heap (w := w3) hr3.out)).trans c0'; have d1 := (b4.cell (p := ⟨q, 1, none⟩) (lt_of_heap (w := w3) hr3.out)).trans c1'; have d2 := (b4.cell (p := ⟨q, 2, none⟩) (lt_of_heap (w := w3) hr3.out)).trans c2')
      | (go_at_call 40; (with_reducible refine iF.mono ?_); rintro r w5 ⟨rfl, v5, R5, F5, K5⟩))
    all_goals go_wp2_with fail
    all_goals go_meet
    all_goals exact ⟨v5, R5, fun k hk => Nat.le_trans b4.size (F5 k hk), keep_trans (keep_trans (keep_drew (keep_refl _ _)) (keep_below b4)) K5⟩
  case rest =>
    obtain ⟨v5, R5, F5, K5⟩ := hcut.out
    have x1 : wc.cell? ⟨q, 1, none⟩ = some (.string ⟨e.v.toArray⟩) := by
      have := (K5.block q (lt_of_heap hr3.out) (by have := aq.out; omega)).trans hr3.out
      rw [cell_of_row _ _ _ _ _ _ this]; rfl
    have P := hid (ro_first K3.out R5 F5 K5)
    clear R5 F5 K5 hcut iW
    go_wp2
    go_ret2
    exact ⟨rfl, P.out⟩
end Kc
end Go.Proofs.Ytkamjpjmdibfgaa
