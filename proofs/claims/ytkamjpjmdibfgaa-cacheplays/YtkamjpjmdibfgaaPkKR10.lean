import Derived.Test.YtkamjpjmdibfgaaPkKR9
/- Layer 15, the document's cache: Put -/
namespace Go.Proofs.Ytkamjpjmdibfgaa
open Go.RowKit Go.Maps
namespace Kc
theorem keep_at {w w' : World} {p o : Nat} {v : Value} (h : Below w.heap.size w w') (hp : w.heap.size ≤ p) : Below w.heap.size w (w'.setCell ⟨p, o, none⟩ v) :=
  ⟨h.os, h.tape, h.output, by simp only [World.setCell]; simpa using h.size, fun k hk => (heap_setCell_other _ _ _ _ (by show k ≠ p; omega)).trans (h.block k hk)⟩
/-- Put has come to its test -/
structure Rp (w : World) (a B p : Nat) (v : Value) (T : Obj) (R : List En) (f m o : Nat) (u : Value) (w' : World) : Prop where
  row : Rr w' a B v f m o
  own : OwnM 3 w' u R.length (thc R)
  fre : ∀ k, u.ownBlock = some k → w.heap.size ≤ k ∧ k ≠ p
  tng : w'.heap[p]? = some T
  bel : Below w.heap.size w w'
theorem Rp.below {w w' w'' : World} {a B p : Nat} {v : Value} {T : Obj} {R : List En} {f m o : Nat} {u : Value} (h : Rp w a B p v T R f m o u w') (b : Below w'.heap.size w' w'') : Rp w a B p v T R f m o u w'' :=
  ⟨(b.block a (lt_of_heap h.row)).trans h.row, h.own.below b, h.fre, (b.block p (lt_of_heap h.tng)).trans h.tng, h.bel.trans (b.mono h.bel.size)⟩
theorem Rp.rm {w w' : World} {a B p : Nat} {v : Value} {T : Obj} {R : List En} {f m o : Nat} {u : Value} (h : Rp w a B p v T R f m o u w') (n : Nat) : Rm w a B n p v T R f m o u R [] o w' :=
  ⟨h.row, by rw [List.append_nil]; exact h.own, h.fre, h.tng, by rw [List.append_nil, List.append_nil]; rfl, by rw [List.append_nil], keep_below h.bel, by rw [List.append_nil]; exact List.Sublist.refl _⟩
theorem rp_without {w w1 w2 : World} {a B : Nat} {v u : Value} {L R : List En} {f m o : Nat} {T : Obj} (h : Rf w a B v L f m o) (hw1 : w1 = w.alloc T) (b2 : Below w1.heap.size w1 w2) (ho : OwnM 3 w2 u R.length (thc R)) (hf : ∀ k, u.ownBlock = some k → w1.heap.size ≤ k) : Rp w a B w.heap.size v T R f m o u w2 := by
  subst hw1
  have s1 : (w.alloc T).heap.size = w.heap.size + 1 := size_alloc w T
  have b1 : Below w.heap.size w (w.alloc T) := (Below.refl _ _).alloc (Nat.le_refl _) _
  have al := h.lt a (.inl rfl)
  refine ⟨(b2.block a (by omega)).trans (h.below b1).row, ho, fun k hk => ?_, (b2.block _ (by omega)).trans (heap_alloc_new w _), b1.trans (b2.mono (by omega))⟩
  have := hf k hk
  exact ⟨by omega, by omega⟩
theorem Rp.pins {w w' : World} {a B : Nat} {v : Value} {K V : ByteArray} {x : Value} {R : List En} {f m o : Nat} {u : Value} (ha : a < w.heap.size) (h : Rp w a B w.heap.size v (.cells #[.string K, .string V, x] 79 (0, 0)) R f m o u w') (y : Value) : Rp w a B w.heap.size v (.cells #[.string K, .string V, y] 79 (0, 0)) R f m o u (w'.setCell ⟨w.heap.size, 2, none⟩ y) := by
  refine ⟨(heap_setCell_other _ _ _ _ (by show a ≠ w.heap.size; omega)).trans h.row, h.own.kept (by simp [World.setCell]) fun g hg => heap_setCell_other _ _ _ _ (h.fre g hg).2, h.fre, by rw [heap_setCell_same _ _ _ _ _ _ h.tng]; rfl, keep_at h.bel (Nat.le_refl _)⟩
set_option maxRecDepth 100000 in
set_option maxHeartbeats 4000000 in
theorem rput_none_ok {w : World} {a B : Nat} {v : Value} {L : List En} {f m o : Nat} (h : Rf w a B v L f m o) (hl : L.length ≤ 1000000) (ht : tot L ≤ 1000000000) (hB0 : B ≤ 16777216) (ho : o ≤ 1000000000000) (k y : List UInt8) (hk : k.length ≤ 2305843009213693952) (hy : y.length ≤ 2305843009213693952) (hf : fnd k L = none) {n : Nat} (hn : k.length + y.length = n) (hB : n + pnd (wo k L) ≤ B) :
    Calls Try.prog 14 #[.pointer (some ⟨a, 0, none⟩), .string ⟨k.toArray⟩, .string ⟨y.toArray⟩] w fun r w' => r = .returned (.int .i64 0) ∧ ∃ o', (∀ b, Ro w a B v w' (⟨b, k, y, 0⟩ :: room B n (wo k L)) f m o') ∧ o' + (room B n (wo k L)).length = o + (wo k L).length := by
  have al := h.lt a (.inl rfl)
  obtain ⟨w1, hw1⟩ : ∃ w1, w.alloc (.cells #[.string ⟨k.toArray⟩, .string ⟨y.toArray⟩, .int .i64 0] 79) = w1 := ⟨_, rfl⟩
  have h1 : Rf w1 a B v L f m o := by rw [← hw1]; exact h.below ((Below.refl _ _).alloc (Nat.le_refl _) _)
  have hsub : (wo k L).length ≤ L.length ∧ tot (wo k L) ≤ tot L := ⟨(wo_sub k L).length_le, tot_sub (wo_sub k L)⟩
  have hpl := pnd_le (wo k L)
  have i1 := rfind_none h1 hl k hf
  have iW := rwithout_any h1 hl (-1) L.length (.inr ⟨rfl, Nat.le_refl _⟩)
  have hwo := (fnd_none hf).2
  have her : er L.length L.length L = wo k L := by rw [hwo, er_all (Nat.le_refl _)]
  rw [her] at iW
  clear her hwo hf
  obtain ⟨R, hR⟩ : ∃ R, wo k L = R := ⟨_, rfl⟩
  rw [hR] at iW hB hsub hpl ⊢
  have hRl : R.length ≤ 1000000 := Nat.le_trans hsub.1 hl
  have hRt : tot R ≤ 1000000000 := Nat.le_trans hsub.2 ht
  obtain ⟨pr, hpr⟩ : ∃ pr, pnd R = pr := ⟨_, rfl⟩
  rw [hpr] at hB hpl
  have HPR := hid hpr
  have H := hid h
  have HW1 := hid hw1
  have HRL := hid hRl
  have HRT := hid hRt
  have HO := hid ho
  have sz1 : (ByteArray.mk k.toArray).size + (ByteArray.mk y.toArray).size = n := by rw [sv_size, sv_size]; exact hn
  have sz2 : (ByteArray.mk k.toArray).size ≤ 2305843009213693952 ∧ (ByteArray.mk y.toArray).size ≤ 2305843009213693952 := by rw [sv_size, sv_size]; exact ⟨hk, hy⟩
  obtain ⟨p, hp⟩ : ∃ p, w.heap.size = p := ⟨_, rfl⟩
  have HP := hid hp
  generalize hK : (ByteArray.mk k.toArray) = K at *
  generalize hV : (ByteArray.mk y.toArray) = V at *
  have HK := hid hK
  have HV := hid hV
  have wn : IntKind.i64.wrap ((K.size : Int) + (V.size : Int)) = (n : Int) := by rw [IntKind.wrap_i64]; omega
  obtain ⟨s, hs⟩ : ∃ s, n + pr = s := ⟨_, rfl⟩
  have e0 : ¬ (B : Int) < (n : Int) := by omega
  have e1 : IntKind.i64.wrap ((n : Int) + (pr : Int)) = (s : Int) := by rw [IntKind.wrap_i64]; omega
  have e2 : ¬ (B : Int) < (s : Int) := by omega
  have e3 : decide ((B : Int) < (s : Int)) = false := decide_eq_false e2
  have e4 : decide ((B : Int) < (n : Int)) = false := decide_eq_false e0
  have hnn : n ≤ 1000000000000 := by omega
  have aw1 : w1.heap.size = p + 1 := by rw [← hw1, size_alloc, hp]
  have al2 : a < w1.heap.size := by omega
  have c0 : w1.cell? ⟨a, 1, none⟩ = some v := h1.cs.2.1
  clear h hl ht hB hn hk hy hpr hp hK hV hsub hpl sz1 sz2 hRl hRt h1 hR ho hw1
  go_enter Try.func14, Try.ntmps14
  go_upto_region 2 with fail
  rw [HW1.out, HP.out]
  go_upto_region 4 with (first
    | (go_at_call 39; (with_reducible refine i1.mono ?_); rintro r w9 ⟨rfl, hw9⟩; replace hw9 := hw9.symm; subst hw9)
    | (go_at_call 41; (with_reducible refine iW.mono ?_); rintro r w2 ⟨u, rfl, O2, F2, b2⟩))
  have P2 : Rp w a B p v (.cells #[.string K, .string V, .int .i64 0] 79 (0, 0)) R f m o u w2 := by rw [← HP.out]; exact rp_without H.out HW1.out.symm b2 O2 F2
  have P3 : Hid (Rp w a B p v (.cells #[.string K, .string V, .int .i64 ((0 : Nat) : Int)] 79 (0, 0)) R f m o u w2) := P2
  clear c0 P2 b2 O2 F2 i1 iW
  go_upto_region 7 with fail
  obtain ⟨w3, hw3⟩ : ∃ w3, w2 = w3 := ⟨_, rfl⟩
  subst hw3
  have iC := rcounts_any P3.out.own HRL.out (Nat.le_trans HRT.out (by omega))
  rw [HPR.out] at iC
  go_upto_region 8 with (go_at_call 42; (with_reducible refine iC.mono ?_); rintro r w4 ⟨rfl, b4⟩)
  have P4 := hid (P3.out.below b4)
  have z0 : w4.cell? ⟨a, 0, none⟩ = some (.int .i64 (B : Int)) := by rw [cell_of_row _ _ _ _ _ _ P4.out.row]; rfl
  clear P3 b4 iC
  go_upto_if 59 with fail
  have hp0 : a ≠ p := by rw [← HP.out]; omega
  go_cut [] (fun w' => w' = w4)
  case first =>
    go_wp2
    go_meet
    rfl
  case rest =>
    subst hcut
    go_step
    go_step
    refine rput_room (P4.out.rm n) hp0 al HRL.out (Nat.le_trans HRT.out (by omega)) hnn HO.out _ _ _ _ _ _ _ _ _ _ _ _ _ _ _ _ _ _ _ _ _ _ _ _ _ _ _ _ _ _ _ _ _ _ _ _ _ _ _ _ _ _ _ _ _ _ _ _ _ _ _ _ _ _ _ _ _ _ _ _ _ _ _ _ _ _ _ _ _ _ _ _ _ _ _ _ _ _ _ _ _ _ _ _ _ _ _ _ _ _ _ _ _ _ _ _ _ _ _ _ _ _ _ _ _ _ _ _ _ _ _ _ _ ?_
    intro c11 c13 c60 c61 c62 c63 c64 c65 c66 c67 c68 c69 c70 c71 c72 c73 c74 c75 c76 c77 c78 c79 c80 c81 c82 c83 c84 c85 c86 c87 c88 c89 c90 c91 c92 c93 c94 c95 c96 c97 c98 c99 c100 c101 c102 c103 c104 c105 c106 c107 c108 c109 c110 c111 c112 v' w5 o5 R5
    have R5 := hid R5
    have q0 : w5.cell? ⟨p, 0, none⟩ = some (.string K) := by rw [cell_of_row _ _ _ _ _ _ R5.out.tng]; rfl
    have q1 : w5.cell? ⟨p, 1, none⟩ = some (.string V) := by rw [cell_of_row _ _ _ _ _ _ R5.out.tng]; rfl
    have q2 : w5.cell? ⟨p, 2, none⟩ = some (.int .i64 ((0 : Nat) : Int)) := by rw [cell_of_row _ _ _ _ _ _ R5.out.tng]; rfl
    have iF := rfirst_any R5.out.row ⟨0, k, y, (0 : Nat)⟩ R5.out.own (Nat.le_trans (room_sub _ _ _).length_le HRL.out)
    dsimp only at iF
    rw [HK.out, HV.out] at iF
    rw [show ((0 : Nat) : Int) = 0 from rfl] at iF
    clear P4 z0
    go_wp2_with (go_at_call 40; (with_reducible refine iF.mono ?_); rintro r w6 ⟨rfl, v6, R6, F6, K6⟩; have F := hid (⟨v6, R6, F6, K6⟩ : ∃ v', Rf w6 a B v' _ f m o5 ∧ (∀ k, v'.ownBlock = some k → w5.heap.size ≤ k) ∧ Keep (fun k => k = a) w5 w6); clear R6 F6 K6)
    go_ret
    obtain ⟨v6, R6, F6, K6⟩ := F.out
    refine ⟨rfl, o5, fun b => ?_, R5.out.cn⟩
    have R6 : Rf w6 a B v6 (⟨b, k, y, 0⟩ :: room B n R) f m o5 := ⟨R6.row, R6.own, R6.ne⟩
    exact ro_first (keep_mono R5.out.kp fun _ h => .inl h) R6 F6 K6
set_option maxRecDepth 100000 in
set_option maxHeartbeats 4000000 in
theorem rput_none_long {w : World} {a B : Nat} {v : Value} {L : List En} {f m o : Nat} (h : Rf w a B v L f m o) (hl : L.length ≤ 1000000) (ht : tot L ≤ 1000000000) (hB0 : B ≤ 16777216) (ho : o ≤ 1000000000000) (k y : List UInt8) (hk : k.length ≤ 2305843009213693952) (hy : y.length ≤ 2305843009213693952) (hf : fnd k L = none) {n : Nat} (hn : k.length + y.length = n) (hB : B < n + pnd (wo k L)) :
    Calls Try.prog 14 #[.pointer (some ⟨a, 0, none⟩), .string ⟨k.toArray⟩, .string ⟨y.toArray⟩] w fun r w' => r = .returned (.int .i64 151) ∧ Below w.heap.size w w' := by
  have al := h.lt a (.inl rfl)
  obtain ⟨w1, hw1⟩ : ∃ w1, w.alloc (.cells #[.string ⟨k.toArray⟩, .string ⟨y.toArray⟩, .int .i64 0] 79) = w1 := ⟨_, rfl⟩
  have h1 : Rf w1 a B v L f m o := by rw [← hw1]; exact h.below ((Below.refl _ _).alloc (Nat.le_refl _) _)
  have hsub : (wo k L).length ≤ L.length ∧ tot (wo k L) ≤ tot L := ⟨(wo_sub k L).length_le, tot_sub (wo_sub k L)⟩
  have hpl := pnd_le (wo k L)
  have i1 := rfind_none h1 hl k hf
  have iW := rwithout_any h1 hl (-1) L.length (.inr ⟨rfl, Nat.le_refl _⟩)
  have hwo := (fnd_none hf).2
  have her : er L.length L.length L = wo k L := by rw [hwo, er_all (Nat.le_refl _)]
  rw [her] at iW
  clear her hwo hf
  obtain ⟨R, hR⟩ : ∃ R, wo k L = R := ⟨_, rfl⟩
  rw [hR] at iW hB hsub hpl
  have hRl : R.length ≤ 1000000 := Nat.le_trans hsub.1 hl
  have hRt : tot R ≤ 1000000000 := Nat.le_trans hsub.2 ht
  obtain ⟨pr, hpr⟩ : ∃ pr, pnd R = pr := ⟨_, rfl⟩
  rw [hpr] at hB hpl
  have HPR := hid hpr
  have H := hid h
  have HW1 := hid hw1
  have HRL := hid hRl
  have HRT := hid hRt
  have HO := hid ho
  have sz1 : (ByteArray.mk k.toArray).size + (ByteArray.mk y.toArray).size = n := by rw [sv_size, sv_size]; exact hn
  have sz2 : (ByteArray.mk k.toArray).size ≤ 2305843009213693952 ∧ (ByteArray.mk y.toArray).size ≤ 2305843009213693952 := by rw [sv_size, sv_size]; exact ⟨hk, hy⟩
  obtain ⟨p, hp⟩ : ∃ p, w.heap.size = p := ⟨_, rfl⟩
  have HP := hid hp
  generalize hK : (ByteArray.mk k.toArray) = K at *
  generalize hV : (ByteArray.mk y.toArray) = V at *
  have HK := hid hK
  have HV := hid hV
  have wn : IntKind.i64.wrap ((K.size : Int) + (V.size : Int)) = (n : Int) := by rw [IntKind.wrap_i64]; omega
  have zz : (B : Int) < (n : Int) ∨ (¬ (B : Int) < (n : Int) ∧ IntKind.i64.wrap ((n : Int) + (pr : Int)) = ((n + pr : Nat) : Int) ∧ (B : Int) < ((n + pr : Nat) : Int)) := by
    by_cases c : (B : Int) < (n : Int)
    · exact .inl c
    · refine .inr ⟨c, ?_, by omega⟩
      rw [IntKind.wrap_i64]; omega
  have aw1 : w1.heap.size = p + 1 := by rw [← hw1, size_alloc, hp]
  have al2 : a < w1.heap.size := by omega
  have c0 : w1.cell? ⟨a, 1, none⟩ = some v := h1.cs.2.1
  clear h hl ht hB hn hk hy hpr hp hK hV hsub hpl sz1 sz2 hRl hRt h1 hR ho hw1
  go_enter Try.func14, Try.ntmps14
  go_upto_region 2 with fail
  rw [HW1.out, HP.out]
  go_upto_region 4 with (first
    | (go_at_call 39; (with_reducible refine i1.mono ?_); rintro r w9 ⟨rfl, hw9⟩; replace hw9 := hw9.symm; subst hw9)
    | (go_at_call 41; (with_reducible refine iW.mono ?_); rintro r w2 ⟨u, rfl, O2, F2, b2⟩))
  have P2 : Rp w a B p v (.cells #[.string K, .string V, .int .i64 0] 79 (0, 0)) R f m o u w2 := by rw [← HP.out]; exact rp_without H.out HW1.out.symm b2 O2 F2
  have P3 : Hid (Rp w a B p v (.cells #[.string K, .string V, .int .i64 ((0 : Nat) : Int)] 79 (0, 0)) R f m o u w2) := P2
  clear c0 P2 b2 O2 F2 i1 iW
  go_upto_region 7 with fail
  obtain ⟨w3, hw3⟩ : ∃ w3, w2 = w3 := ⟨_, rfl⟩
  subst hw3
  have iC := rcounts_any P3.out.own HRL.out (Nat.le_trans HRT.out (by omega))
  rw [HPR.out] at iC
  go_upto_region 8 with (go_at_call 42; (with_reducible refine iC.mono ?_); rintro r w4 ⟨rfl, b4⟩)
  have P4 := hid (P3.out.below b4)
  have z0 : w4.cell? ⟨a, 0, none⟩ = some (.int .i64 (B : Int)) := by rw [cell_of_row _ _ _ _ _ _ P4.out.row]; rfl
  clear P3 b4 iC
  rcases zz with q0 | ⟨q0, q1, q2⟩
  · have q3 : decide ((B : Int) < (n : Int)) = true := decide_eq_true (by omega)
    go_wp2
    go_ret
    exact ⟨rfl, HP.out ▸ P4.out.bel⟩
  · have q3 : decide ((B : Int) < (n : Int)) = false := decide_eq_false (by omega)
    have q4 : decide ((B : Int) < ((n + pr : Nat) : Int)) = true := decide_eq_true (by omega)
    generalize n + pr = s at *
    go_wp2
    go_ret
    exact ⟨rfl, HP.out ▸ P4.out.bel⟩
set_option maxRecDepth 100000 in
set_option maxHeartbeats 4000000 in
theorem rput_some_ok {w : World} {a B : Nat} {v : Value} {L : List En} {f m o : Nat} (h : Rf w a B v L f m o) (hl : L.length ≤ 1000000) (ht : tot L ≤ 1000000000) (hB0 : B ≤ 16777216) (ho : o ≤ 1000000000000) (k y : List UInt8) (hk : k.length ≤ 2305843009213693952) (hy : y.length ≤ 2305843009213693952) {e : En} (hf : fnd k L = some e) {n : Nat} (hn : k.length + y.length = n) (hB : n + pnd (wo k L) ≤ B) :
    Calls Try.prog 14 #[.pointer (some ⟨a, 0, none⟩), .string ⟨k.toArray⟩, .string ⟨y.toArray⟩] w fun r w' => r = .returned (.int .i64 0) ∧ ∃ o', (∀ b, Ro w a B v w' (⟨b, k, y, e.p⟩ :: room B n (wo k L)) f m o') ∧ o' + (room B n (wo k L)).length = o + (wo k L).length := by
  have al := h.lt a (.inl rfl)
  obtain ⟨w1, hw1⟩ : ∃ w1, w.alloc (.cells #[.string ⟨k.toArray⟩, .string ⟨y.toArray⟩, .int .i64 0] 79) = w1 := ⟨_, rfl⟩
  have h1 : Rf w1 a B v L f m o := by rw [← hw1]; exact h.below ((Below.refl _ _).alloc (Nat.le_refl _) _)
  have hsub : (wo k L).length ≤ L.length ∧ tot (wo k L) ≤ tot L := ⟨(wo_sub k L).length_le, tot_sub (wo_sub k L)⟩
  have hpl := pnd_le (wo k L)
  obtain ⟨X, Y, hL, hek, hwo, hrp, i1⟩ := rfind_some h1 hl k hf
  have iW := rwithout_any h1 hl (X.length : Int) X.length (.inl rfl)
  have her : er X.length L.length L = wo k L := by rw [hwo]; rw [hL]; exact er_mid X Y e
  rw [her] at iW
  have hO := h1.own
  rw [hL] at hO
  obtain ⟨g, cap, hv, _, _, k2, hgl⟩ := ownM_e hO
  have y1 : (X.length : Int) < ((X ++ e :: Y).length : Int) := by simp; omega
  have y3 : (0 : Int) ≤ (X.length : Int) := by omega
  obtain ⟨N, hN⟩ : ∃ N, (X ++ e :: Y).length = N := ⟨_, rfl⟩
  rw [hN] at hv y1
  subst hv
  obtain ⟨t, ht'⟩ : ∃ t, X.length = t := ⟨_, rfl⟩
  rw [ht'] at k2 y1 y3 i1 iW
  have HGL := hid hgl
  clear hO hN ht' her hrp hwo hek hL hf hgl
  obtain ⟨R, hR⟩ : ∃ R, wo k L = R := ⟨_, rfl⟩
  rw [hR] at iW hB hsub hpl ⊢
  have hRl : R.length ≤ 1000000 := Nat.le_trans hsub.1 hl
  have hRt : tot R ≤ 1000000000 := Nat.le_trans hsub.2 ht
  obtain ⟨pr, hpr⟩ : ∃ pr, pnd R = pr := ⟨_, rfl⟩
  rw [hpr] at hB hpl
  have HPR := hid hpr
  have H := hid h
  have HW1 := hid hw1
  have HRL := hid hRl
  have HRT := hid hRt
  have HO := hid ho
  have sz1 : (ByteArray.mk k.toArray).size + (ByteArray.mk y.toArray).size = n := by rw [sv_size, sv_size]; exact hn
  have sz2 : (ByteArray.mk k.toArray).size ≤ 2305843009213693952 ∧ (ByteArray.mk y.toArray).size ≤ 2305843009213693952 := by rw [sv_size, sv_size]; exact ⟨hk, hy⟩
  obtain ⟨p, hp⟩ : ∃ p, w.heap.size = p := ⟨_, rfl⟩
  have HP := hid hp
  generalize hK : (ByteArray.mk k.toArray) = K at *
  generalize hV : (ByteArray.mk y.toArray) = V at *
  have HK := hid hK
  have HV := hid hV
  have wn : IntKind.i64.wrap ((K.size : Int) + (V.size : Int)) = (n : Int) := by rw [IntKind.wrap_i64]; omega
  obtain ⟨s, hs⟩ : ∃ s, n + pr = s := ⟨_, rfl⟩
  have e0 : ¬ (B : Int) < (n : Int) := by omega
  have e1 : IntKind.i64.wrap ((n : Int) + (pr : Int)) = (s : Int) := by rw [IntKind.wrap_i64]; omega
  have e2 : ¬ (B : Int) < (s : Int) := by omega
  have e3 : decide ((B : Int) < (s : Int)) = false := decide_eq_false e2
  have e4 : decide ((B : Int) < (n : Int)) = false := decide_eq_false e0
  have hnn : n ≤ 1000000000000 := by omega
  have aw1 : w1.heap.size = p + 1 := by rw [← hw1, size_alloc, hp]
  have al2 : a < w1.heap.size := by omega
  have c0 : w1.cell? ⟨a, 1, none⟩ = some (.slice (some ⟨g, 0, none⟩) N cap) := h1.cs.2.1
  clear h hl ht hB hn hk hy hpr hp hK hV hsub hpl sz1 sz2 hRl hRt h1 hR ho hw1
  go_enter Try.func14, Try.ntmps14
  go_upto_region 2 with fail
  rw [HW1.out, HP.out]
  go_upto_region 4 with (first
    | (go_at_call 39; (with_reducible refine i1.mono ?_); rintro r w9 ⟨rfl, hw9⟩; replace hw9 := hw9.symm; subst hw9)
    | (go_at_call 41; (with_reducible refine iW.mono ?_); rintro r w2 ⟨u, rfl, O2, F2, b2⟩))
  have P2 : Rp w a B p (.slice (some ⟨g, 0, none⟩) N cap) (.cells #[.string K, .string V, .int .i64 0] 79 (0, 0)) R f m o u w2 := by rw [← HP.out]; exact rp_without H.out HW1.out.symm b2 O2 F2
  have z1 := (b2.cell (p := ⟨a, 1, none⟩) al2).trans c0
  have z2 := (b2.cell (p := ⟨g, t * 3 + 2, none⟩) HGL.out).trans k2
  have f2 : w2.frozen? ⟨p, 2, none⟩ = false := frozen_of_row _ _ _ _ _ P2.tng
  have z3 : w2.cell? ⟨p, 2, none⟩ = some (.int .i64 0) := by rw [cell_of_row _ _ _ _ _ _ P2.tng]; rfl
  have P3 : Hid (Rp w a B p (.slice (some ⟨g, 0, none⟩) N cap) (.cells #[.string K, .string V, .int .i64 (e.p : Int)] 79 (0, 0)) R f m o u (w2.setCell ⟨p, 2, none⟩ (.int .i64 (e.p : Int)))) := by
    rw [← HP.out] at P2 ⊢
    exact P2.pins al _
  obtain ⟨pe, hpe⟩ : ∃ pe, e.p = pe := ⟨_, rfl⟩
  rw [hpe] at z2 P3
  have HPE := hid hpe
  clear hpe c0 k2 P2 b2 O2 F2 i1 iW
  go_upto_region 7 with fail
  obtain ⟨w3, hw3⟩ : ∃ w3, w2.setCell ⟨p, 2, none⟩ (.int .i64 (pe : Int)) = w3 := ⟨_, rfl⟩
  rw [hw3] at P3 ⊢
  clear hw3 z1 z2 z3 f2
  have iC := rcounts_any P3.out.own HRL.out (Nat.le_trans HRT.out (by omega))
  rw [HPR.out] at iC
  go_upto_region 8 with (go_at_call 42; (with_reducible refine iC.mono ?_); rintro r w4 ⟨rfl, b4⟩)
  have P4 := hid (P3.out.below b4)
  have z0 : w4.cell? ⟨a, 0, none⟩ = some (.int .i64 (B : Int)) := by rw [cell_of_row _ _ _ _ _ _ P4.out.row]; rfl
  clear P3 b4 iC
  go_upto_if 59 with fail
  have hp0 : a ≠ p := by rw [← HP.out]; omega
  go_cut [] (fun w' => w' = w4)
  case first =>
    go_wp2
    go_meet
    rfl
  case rest =>
    subst hcut
    go_step
    go_step
    refine rput_room (P4.out.rm n) hp0 al HRL.out (Nat.le_trans HRT.out (by omega)) hnn HO.out _ _ _ _ _ _ _ _ _ _ _ _ _ _ _ _ _ _ _ _ _ _ _ _ _ _ _ _ _ _ _ _ _ _ _ _ _ _ _ _ _ _ _ _ _ _ _ _ _ _ _ _ _ _ _ _ _ _ _ _ _ _ _ _ _ _ _ _ _ _ _ _ _ _ _ _ _ _ _ _ _ _ _ _ _ _ _ _ _ _ _ _ _ _ _ _ _ _ _ _ _ _ _ _ _ _ _ _ _ _ _ _ _ ?_
    intro c11 c13 c60 c61 c62 c63 c64 c65 c66 c67 c68 c69 c70 c71 c72 c73 c74 c75 c76 c77 c78 c79 c80 c81 c82 c83 c84 c85 c86 c87 c88 c89 c90 c91 c92 c93 c94 c95 c96 c97 c98 c99 c100 c101 c102 c103 c104 c105 c106 c107 c108 c109 c110 c111 c112 v' w5 o5 R5
    have R5 := hid R5
    have q0 : w5.cell? ⟨p, 0, none⟩ = some (.string K) := by rw [cell_of_row _ _ _ _ _ _ R5.out.tng]; rfl
    have q1 : w5.cell? ⟨p, 1, none⟩ = some (.string V) := by rw [cell_of_row _ _ _ _ _ _ R5.out.tng]; rfl
    have q2 : w5.cell? ⟨p, 2, none⟩ = some (.int .i64 (pe : Int)) := by rw [cell_of_row _ _ _ _ _ _ R5.out.tng]; rfl
    have iF := rfirst_any R5.out.row ⟨0, k, y, pe⟩ R5.out.own (Nat.le_trans (room_sub _ _ _).length_le HRL.out)
    dsimp only at iF
    rw [HK.out, HV.out] at iF
    clear P4 z0
    go_wp2_with (go_at_call 40; (with_reducible refine iF.mono ?_); rintro r w6 ⟨rfl, v6, R6, F6, K6⟩; have F := hid (⟨v6, R6, F6, K6⟩ : ∃ v', Rf w6 a B v' _ f m o5 ∧ (∀ k, v'.ownBlock = some k → w5.heap.size ≤ k) ∧ Keep (fun k => k = a) w5 w6); clear R6 F6 K6)
    go_ret
    obtain ⟨v6, R6, F6, K6⟩ := F.out
    refine ⟨rfl, o5, fun b => ?_, R5.out.cn⟩
    have R6 : Rf w6 a B v6 (⟨b, k, y, e.p⟩ :: room B n R) f m o5 := by rw [HPE.out]; exact ⟨R6.row, R6.own, R6.ne⟩
    exact ro_first (keep_mono R5.out.kp fun _ h => .inl h) R6 F6 K6
set_option maxRecDepth 100000 in
set_option maxHeartbeats 4000000 in
theorem rput_some_long {w : World} {a B : Nat} {v : Value} {L : List En} {f m o : Nat} (h : Rf w a B v L f m o) (hl : L.length ≤ 1000000) (ht : tot L ≤ 1000000000) (hB0 : B ≤ 16777216) (ho : o ≤ 1000000000000) (k y : List UInt8) (hk : k.length ≤ 2305843009213693952) (hy : y.length ≤ 2305843009213693952) {e : En} (hf : fnd k L = some e) {n : Nat} (hn : k.length + y.length = n) (hB : B < n + pnd (wo k L)) :
    Calls Try.prog 14 #[.pointer (some ⟨a, 0, none⟩), .string ⟨k.toArray⟩, .string ⟨y.toArray⟩] w fun r w' => r = .returned (.int .i64 151) ∧ Below w.heap.size w w' := by
  have al := h.lt a (.inl rfl)
  obtain ⟨w1, hw1⟩ : ∃ w1, w.alloc (.cells #[.string ⟨k.toArray⟩, .string ⟨y.toArray⟩, .int .i64 0] 79) = w1 := ⟨_, rfl⟩
  have h1 : Rf w1 a B v L f m o := by rw [← hw1]; exact h.below ((Below.refl _ _).alloc (Nat.le_refl _) _)
  have hsub : (wo k L).length ≤ L.length ∧ tot (wo k L) ≤ tot L := ⟨(wo_sub k L).length_le, tot_sub (wo_sub k L)⟩
  have hpl := pnd_le (wo k L)
  obtain ⟨X, Y, hL, hek, hwo, hrp, i1⟩ := rfind_some h1 hl k hf
  have iW := rwithout_any h1 hl (X.length : Int) X.length (.inl rfl)
  have her : er X.length L.length L = wo k L := by rw [hwo]; rw [hL]; exact er_mid X Y e
  rw [her] at iW
  have hO := h1.own
  rw [hL] at hO
  obtain ⟨g, cap, hv, _, _, k2, hgl⟩ := ownM_e hO
  have y1 : (X.length : Int) < ((X ++ e :: Y).length : Int) := by simp; omega
  have y3 : (0 : Int) ≤ (X.length : Int) := by omega
  obtain ⟨N, hN⟩ : ∃ N, (X ++ e :: Y).length = N := ⟨_, rfl⟩
  rw [hN] at hv y1
  subst hv
  obtain ⟨t, ht'⟩ : ∃ t, X.length = t := ⟨_, rfl⟩
  rw [ht'] at k2 y1 y3 i1 iW
  have HGL := hid hgl
  clear hO hN ht' her hrp hwo hek hL hf hgl
  obtain ⟨R, hR⟩ : ∃ R, wo k L = R := ⟨_, rfl⟩
  rw [hR] at iW hB hsub hpl
  have hRl : R.length ≤ 1000000 := Nat.le_trans hsub.1 hl
  have hRt : tot R ≤ 1000000000 := Nat.le_trans hsub.2 ht
  obtain ⟨pr, hpr⟩ : ∃ pr, pnd R = pr := ⟨_, rfl⟩
  rw [hpr] at hB hpl
  have HPR := hid hpr
  have H := hid h
  have HW1 := hid hw1
  have HRL := hid hRl
  have HRT := hid hRt
  have HO := hid ho
  have sz1 : (ByteArray.mk k.toArray).size + (ByteArray.mk y.toArray).size = n := by rw [sv_size, sv_size]; exact hn
  have sz2 : (ByteArray.mk k.toArray).size ≤ 2305843009213693952 ∧ (ByteArray.mk y.toArray).size ≤ 2305843009213693952 := by rw [sv_size, sv_size]; exact ⟨hk, hy⟩
  obtain ⟨p, hp⟩ : ∃ p, w.heap.size = p := ⟨_, rfl⟩
  have HP := hid hp
  generalize hK : (ByteArray.mk k.toArray) = K at *
  generalize hV : (ByteArray.mk y.toArray) = V at *
  have HK := hid hK
  have HV := hid hV
  have wn : IntKind.i64.wrap ((K.size : Int) + (V.size : Int)) = (n : Int) := by rw [IntKind.wrap_i64]; omega
  have zz : (B : Int) < (n : Int) ∨ (¬ (B : Int) < (n : Int) ∧ IntKind.i64.wrap ((n : Int) + (pr : Int)) = ((n + pr : Nat) : Int) ∧ (B : Int) < ((n + pr : Nat) : Int)) := by
    by_cases c : (B : Int) < (n : Int)
    · exact .inl c
    · refine .inr ⟨c, ?_, by omega⟩
      rw [IntKind.wrap_i64]; omega
  have aw1 : w1.heap.size = p + 1 := by rw [← hw1, size_alloc, hp]
  have al2 : a < w1.heap.size := by omega
  have c0 : w1.cell? ⟨a, 1, none⟩ = some (.slice (some ⟨g, 0, none⟩) N cap) := h1.cs.2.1
  clear h hl ht hB hn hk hy hpr hp hK hV hsub hpl sz1 sz2 hRl hRt h1 hR ho hw1
  go_enter Try.func14, Try.ntmps14
  go_upto_region 2 with fail
  rw [HW1.out, HP.out]
  go_upto_region 4 with (first
    | (go_at_call 39; (with_reducible refine i1.mono ?_); rintro r w9 ⟨rfl, hw9⟩; replace hw9 := hw9.symm; subst hw9)
    | (go_at_call 41; (with_reducible refine iW.mono ?_); rintro r w2 ⟨u, rfl, O2, F2, b2⟩))
  have P2 : Rp w a B p (.slice (some ⟨g, 0, none⟩) N cap) (.cells #[.string K, .string V, .int .i64 0] 79 (0, 0)) R f m o u w2 := by rw [← HP.out]; exact rp_without H.out HW1.out.symm b2 O2 F2
  have z1 := (b2.cell (p := ⟨a, 1, none⟩) al2).trans c0
  have z2 := (b2.cell (p := ⟨g, t * 3 + 2, none⟩) HGL.out).trans k2
  have f2 : w2.frozen? ⟨p, 2, none⟩ = false := frozen_of_row _ _ _ _ _ P2.tng
  have z3 : w2.cell? ⟨p, 2, none⟩ = some (.int .i64 0) := by rw [cell_of_row _ _ _ _ _ _ P2.tng]; rfl
  have P3 : Hid (Rp w a B p (.slice (some ⟨g, 0, none⟩) N cap) (.cells #[.string K, .string V, .int .i64 (e.p : Int)] 79 (0, 0)) R f m o u (w2.setCell ⟨p, 2, none⟩ (.int .i64 (e.p : Int)))) := by
    rw [← HP.out] at P2 ⊢
    exact P2.pins al _
  obtain ⟨pe, hpe⟩ : ∃ pe, e.p = pe := ⟨_, rfl⟩
  rw [hpe] at z2 P3
  have HPE := hid hpe
  clear hpe c0 k2 P2 b2 O2 F2 i1 iW
  go_upto_region 7 with fail
  obtain ⟨w3, hw3⟩ : ∃ w3, w2.setCell ⟨p, 2, none⟩ (.int .i64 (pe : Int)) = w3 := ⟨_, rfl⟩
  rw [hw3] at P3 ⊢
  clear hw3 z1 z2 z3 f2
  have iC := rcounts_any P3.out.own HRL.out (Nat.le_trans HRT.out (by omega))
  rw [HPR.out] at iC
  go_upto_region 8 with (go_at_call 42; (with_reducible refine iC.mono ?_); rintro r w4 ⟨rfl, b4⟩)
  have P4 := hid (P3.out.below b4)
  have z0 : w4.cell? ⟨a, 0, none⟩ = some (.int .i64 (B : Int)) := by rw [cell_of_row _ _ _ _ _ _ P4.out.row]; rfl
  clear P3 b4 iC
  rcases zz with q0 | ⟨q0, q1, q2⟩
  · have q3 : decide ((B : Int) < (n : Int)) = true := decide_eq_true (by omega)
    go_wp2
    go_ret
    exact ⟨rfl, HP.out ▸ P4.out.bel⟩
  · have q3 : decide ((B : Int) < (n : Int)) = false := decide_eq_false (by omega)
    have q4 : decide ((B : Int) < ((n + pr : Nat) : Int)) = true := decide_eq_true (by omega)
    generalize n + pr = s at *
    go_wp2
    go_ret
    exact ⟨rfl, HP.out ▸ P4.out.bel⟩
end Kc
end Go.Proofs.Ytkamjpjmdibfgaa
