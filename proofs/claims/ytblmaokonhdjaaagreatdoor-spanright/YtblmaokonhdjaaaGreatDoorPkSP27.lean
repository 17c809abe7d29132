import Derived.Test.YtblmaokonhdjaaaGreatDoorPkSP24
import Derived.Test.YtblmaokonhdjaaaGreatDoorPkO2
namespace Go.Proofs.YtblmaokonhdjaaaGreatDoor
open Go.RowKit Go.Shelf
/-- H5: the hash of [b, b + n), out of known ones -/
def foS : Nat → Nat → Nat → List Sub → Option ByteArray
  | 0, _, _, _ => none
  | f + 1, b, n, K => match K.find? (fun q => decide (q.1 = ((b : Int), ((b + n : Nat) : Int)))) with
    | some q => some q.2
    | none => if n < 2 then none else
      if (witS b ((b + Tree.sp n : Nat) : Int) K).length = 0 ∨ (witS ((b + Tree.sp n : Nat) : Int) ((b + n : Nat) : Int) K).length = 0 then none else
      match foS f b (Tree.sp n) (witS b ((b + Tree.sp n : Nat) : Int) K) with
      | none => none
      | some x => match foS f (b + Tree.sp n) (n - Tree.sp n) (witS ((b + Tree.sp n : Nat) : Int) ((b + n : Nat) : Int) K) with
        | none => none
        | some y => some ⟨(Tree.nd x.data.toList y.data.toList).toArray⟩
/-- what fold answers -/
def foV : Option ByteArray → Value
  | none => .tuple #[.string ⟨#[]⟩, .bool false]
  | some s => .tuple #[.string s, .bool true]
/-- the first part: is it one of known? -/
theorem find_none {K : List Sub} {b e : Int} (h : ∀ (j : Nat) (q : Sub), K[j]? = some q → ¬ (q.1.1 = b ∧ q.1.2 = e)) : K.find? (fun q => decide (q.1 = (b, e))) = none := by
  rw [List.find?_eq_none]
  intro q hq
  obtain ⟨j, hj⟩ := List.getElem?_of_mem hq
  have := h j q hj
  simp only [decide_eq_true_eq]
  intro he
  exact this (by rw [he]; exact ⟨rfl, rfl⟩)
theorem find_at {b e : Int} : ∀ {K : List Sub} {j : Nat} {s : ByteArray}, (∀ (i : Nat) (q : Sub), i < j → K[i]? = some q → ¬ (q.1.1 = b ∧ q.1.2 = e)) → K[j]? = some ((b, e), s) → K.find? (fun q => decide (q.1 = (b, e))) = some ((b, e), s)
  | [], j, s, _, h => by simp at h
  | a :: K, 0, s, _, h => by
    obtain rfl : a = ((b, e), s) := by simpa using h
    rw [List.find?_cons_of_pos (by simp)]
  | a :: K, j + 1, s, h0, h => by
    have ha := h0 0 a (by omega) rfl
    rw [List.find?_cons_of_neg (by simp only [decide_eq_true_eq]; intro he; exact ha (by rw [he]; exact ⟨rfl, rfl⟩))]
    exact find_at (j := j) (fun i q hi hq => h0 (i + 1) q (by omega) (by simpa using hq)) (by simpa using h)
set_option maxRecDepth 100000 in
set_option maxHeartbeats 8000000 in
theorem fold8_any : ∀ (f b n : Nat) (K : List Sub) (v : Value) (w : World), n ≤ f → 1 ≤ n → b + n ≤ 1099511627776 → OwnS3 w v K → K.length ≤ 4096 → Tabs w →
    Calls Tryz.prog 102 #[sg b ((b + n : Nat) : Int), v] w fun r w' => r = .returned (foV (foS f b n K)) ∧ Below w.heap.size w w'
  | 0, b, n, K, v, w, hf, h1, _, _, _, _ => by omega
  | f + 1, b, n, K, v, w, hf, h1, hbn, h, hl, T => by
    obtain ⟨a, c, rfl, hc1, hc2⟩ := h.shape
    obtain ⟨m, hm⟩ : ∃ m, Hid (K.length = m) := ⟨_, rfl⟩
    obtain ⟨e, hbe⟩ : ∃ e, Hid (b + n = e) := ⟨_, rfl⟩
    have HO : Hid (OwnS3 w (.slice a m c) K) := by unfold Hid; rw [← hm.out]; exact h
    rw [hm.out] at hc1 hl ⊢
    rw [hbe.out] at hbn ⊢
    have S0 := hid (SpI.new w b e)
    have B0 := hid ((Below.refl _ w).alloc (Nat.le_refl _) (.cells #[.int .i64 (b : Int), .int .i64 (e : Int)] 50))
    have HT := hid T
    have hT := T.lt
    clear h T
    go_enter Tryz.func102, Tryz.ntmps102
    go_wp2
    go_loopw [19] (fun j wr => ∃ i : Nat, j = .int .i64 (i : Int) ∧ i ≤ m ∧ Hid (∀ (k : Nat) (q : Sub), k < i → K[k]? = some q → ¬ (q.1.1 = (b : Int) ∧ q.1.2 = (e : Int))) ∧ Hid (SpI wr w.heap.size b e) ∧ Hid (Below w.heap.size w wr)) (fun j _ => m - (intOf j).toNat)
    case atStart => exact ⟨0, rfl, Nat.zero_le _, fun k q hk => by omega, S0, B0⟩
    case round =>
      clear S0 B0
      obtain ⟨i, rfl, hi, hN, hS, hB⟩ := hrel
      have q0 := hS.out.c0
      have q1 := hS.out.c1
      by_cases him : i < m
      · have b0 : (i : Int) < (m : Int) := by omega
        have b1 : (0 : Int) ≤ (i : Int) := by omega
        obtain ⟨x, y, s, hq⟩ : ∃ x y s, K[i]? = some ((x, y), s) := ⟨_, _, _, List.getElem?_eq_getElem (by have := hm.out; omega)⟩
        obtain ⟨g, c', e1, k0, k1, k2⟩ := OwnS3.at (OwnM.below HO.out hB.out) hq
        injection e1 with e1 e2 e3
        subst e1
        clear e2 e3
        have m0 := SbI.new wr x y s
        have bA := (Below.refl _ wr).alloc (Nat.le_refl _) (.cells #[.int .i64 x, .int .i64 y, .string s] 226)
        have S1 := hid (hS.out.below bA)
        have B1 := hid (hB.out.trans (bA.mono hB.out.size))
        have t0 := S1.out.c0
        have t1 := S1.out.c1
        have r0 := m0.c0
        have r1 := m0.c1
        have r2 := m0.c2
        have k0 : wr.cell? ⟨g, i * 3, none⟩ = some (.int .i64 x) := k0
        have k1 : wr.cell? ⟨g, i * 3 + 1, none⟩ = some (.int .i64 y) := k1
        have k2 : wr.cell? ⟨g, i * 3 + 2, none⟩ = some (.string s) := k2
        have heq := fun w' => eq_sp x y (b : Int) (e : Int) w'
        clear bA hB hS q0 q1
        by_cases hxy : x = (b : Int) ∧ y = (e : Int)
        · obtain ⟨rfl, rfl⟩ := hxy
          have hxy' : ((b : Int) == (b : Int) && (e : Int) == (e : Int)) = true := by simp
          rw [hxy'] at heq
          have er : Hid (foS (f + 1) b n K = some s) := by
            have hf := find_at (s := s) hN.out hq
            unfold Hid
            rw [foS, hbe.out, hf]
          clear hN hq hxy'
          go_wp2
          go_ret2
          exact ⟨by rw [er.out]; rfl, B1.out⟩
        · have hxy' : (x == (b : Int) && y == (e : Int)) = false := by simpa using hxy
          rw [hxy'] at heq
          have hN' : Hid (∀ (k : Nat) (q : Sub), k < i + 1 → K[k]? = some q → ¬ (q.1.1 = (b : Int) ∧ q.1.2 = (e : Int))) := fun k q hk hkq => by
            by_cases e : k = i
            · subst e
              rw [hq] at hkq
              obtain rfl := Option.some.inj hkq
              exact hxy
            · exact hN.out k q (by omega) hkq
          clear hN hq hxy
          go_wp2
          exact ⟨⟨i + 1, by go_num, by omega, hN', S1, B1⟩, by simp [intOf]; omega⟩
      · obtain rfl : i = m := by omega
        have b0 : ¬ (i : Int) < (i : Int) := by omega
        have hfn := hid (find_none (K := K) (b := b) (e := e) fun j q hj => hN.out j q (by have := (List.getElem?_eq_some_iff.1 hj).1; have := hm.out; omega) hj)
        have i1 := slen_nat b e (by have := hbe.out; omega) hbn wr
        have hen : Hid (e - b = n) := by have := hbe.out; unfold Hid; omega
        rw [hen.out] at i1
        clear hN
        by_cases hn2 : n < 2
        · obtain rfl : n = 1 := by omega
          have er : Hid (foS (f + 1) b 1 K = none) := by
            unfold Hid
            rw [foS, hbe.out, hfn.out]
            rfl
          go_wp2_with (go_at_call 149; refine i1.mono ?_; rintro r w2 ⟨rfl, hw2⟩)
          go_ret2
          exact ⟨by rw [er.out]; rfl, hB.out.trans (hw2.mono hB.out.size)⟩
        · have hn1 : ((n : Int) == 1) = false := by simp; omega
          obtain ⟨mid, hmid⟩ : ∃ mid, Hid (b + Tree.sp n = mid) := ⟨_, rfl⟩
          have i2 := fun w' => parts_at b e mid (by have := hen.out; omega) hbn (show mid = b + Tree.sp (e - b) by rw [hen.out, hmid.out]) w'
          have s1 := Tree.sp_lt (n := n) (by omega)
          have s2 := Tree.sp_pos (n := n) (by omega)
          have hme : Hid (mid + (n - Tree.sp n) = e) := by have := hmid.out; have := hbe.out; unfold Hid; omega
          obtain ⟨KL, hKL⟩ : ∃ KL, Hid (witS b (mid : Int) K = KL) := ⟨_, rfl⟩
          obtain ⟨KR, hKR⟩ : ∃ KR, Hid (witS (mid : Int) (e : Int) K = KR) := ⟨_, rfl⟩
          have lL : Hid (KL.length ≤ i) := by unfold Hid; rw [← hKL.out, ← hm.out]; exact witS_len _ _ _
          have lR : Hid (KR.length ≤ i) := by unfold Hid; rw [← hKR.out, ← hm.out]; exact witS_len _ _ _
          have iL := fun w' (hb : Below w.heap.size w w') => within_any b (mid : Int) K _ w' (OwnM.below HO.out hb) (by have := hm.out; omega)
          have iR := fun w' (hb : Below w.heap.size w w') => within_any (mid : Int) (e : Int) K _ w' (OwnM.below HO.out hb) (by have := hm.out; omega)
          rw [hKL.out] at iL
          rw [hKR.out] at iR
          have jL := fun v' w' (ho : OwnS3 w' v' KL) (hb : Below w.heap.size w w') => fold8_any f b (Tree.sp n) KL v' w' (by omega) (by omega) (by have := hmid.out; have := hbe.out; omega) ho (by have := lL.out; omega) (HT.out.below hb hT)
          have jR := fun v' w' (ho : OwnS3 w' v' KR) (hb : Below w.heap.size w w') => fold8_any f mid (n - Tree.sp n) KR v' w' (by omega) (by omega) (by have := hme.out; omega) ho (by have := lR.out; omega) (HT.out.below hb hT)
          rw [hmid.out] at jL
          rw [hme.out] at jR
          have hfo : Hid (foS (f + 1) b n K = if KL.length = 0 ∨ KR.length = 0 then none else match foS f b (Tree.sp n) KL with
              | none => none
              | some x => match foS f mid (n - Tree.sp n) KR with
                | none => none
                | some y => some ⟨(Tree.nd x.data.toList y.data.toList).toArray⟩) := by
            unfold Hid
            rw [foS, hbe.out, hfn.out]
            simp only []
            rw [if_neg hn2, hmid.out, hKL.out, hKR.out]
          have hS1 := hid hS.out
          go_wp2_with (first
            | (go_at_call 149; refine i1.mono ?_; rintro r w2 ⟨rfl, hw2⟩; have S2 := hid (hS1.out.below hw2); have p0 := S2.out.c0; have p1 := S2.out.c1; have B2 := hid (hB.out.trans (hw2.mono hB.out.size)))
            | (go_at_call 150; refine (i2 _).mono ?_; rintro r w3 ⟨rfl, hw3⟩))
          have hb8 := ((Below.refl _ w3).alloc (Nat.le_refl _) (.cells #[.int .i64 (b : Int), .int .i64 (mid : Int)] 50)).alloc (by rw [size_alloc]; omega) (.cells #[.int .i64 (mid : Int), .int .i64 (e : Int)] 50)
          have L8 := (SpI.new w3 b mid).below ((Below.refl _ _).alloc (Nat.le_refl _) (.cells #[.int .i64 (mid : Int), .int .i64 (e : Int)] 50))
          have R8 := SpI.new (w3.alloc (.cells #[.int .i64 (b : Int), .int .i64 (mid : Int)] 50)) mid e
          rw [size_alloc] at R8
          have B8 := hid ((B2.out.trans (hw3.mono B2.out.size)).trans (hb8.mono (Nat.le_trans B2.out.size hw3.size)))
          have L8 := hid L8
          have R8 := hid R8
          clear hb8 hw3 hw2 p0 p1 B2 S2 i1 i2 hB hS hS1 q0 q1
          generalize ((w3.alloc (.cells #[.int .i64 (b : Int), .int .i64 (mid : Int)] 50)).alloc (.cells #[.int .i64 (mid : Int), .int .i64 (e : Int)] 50)) = w4 at *
          generalize w3.heap.size = gl at *
          have x0 := And.intro (And.intro L8.out.c0 L8.out.c1) (And.intro R8.out.c0 R8.out.c1)
          go_region_held3 (fun w' => (w'.cell? ⟨gl, 0, none⟩ = some (.int .i64 (b : Int)) ∧ w'.cell? ⟨gl, 1, none⟩ = some (.int .i64 (mid : Int))) ∧ w'.cell? ⟨gl + 1, 0, none⟩ = some (.int .i64 (mid : Int)) ∧ w'.cell? ⟨gl + 1, 1, none⟩ = some (.int .i64 (e : Int))) (first | exact x6 | exact x5 | exact x0) (first
            | (go_at_call 103; (with_reducible refine (iL _ B8.out.drew).mono ?_); clear iL; rintro r w5 ⟨vL, rfl, GL⟩; have b5 := drewBelow8 GL.below; have B5 := hid (B8.out.trans (b5.mono B8.out.size)); have L5 := hid (L8.out.below b5); have R5 := hid (R8.out.below b5); have OL := hid GL.own; have x5 := And.intro (And.intro L5.out.c0 L5.out.c1) (And.intro R5.out.c0 R5.out.c1); obtain ⟨aL, cL, rfl, _, _⟩ := OL.out.shape; clear GL b5)
            | (go_at_call 103; (with_reducible refine (iR _ B5.out).mono ?_); rintro r w6 ⟨vR, rfl, GR⟩; have b6 := GR.below; have B6 := hid (B5.out.trans (b6.mono B5.out.size)); have L6 := hid (L5.out.below b6); have R6 := hid (R5.out.below b6); have OR := hid GR.own; have OL6 := hid (OwnM.below OL.out b6); have x6 := And.intro (And.intro L6.out.c0 L6.out.c1) (And.intro R6.out.c0 R6.out.c1); obtain ⟨aR, cR, rfl, _, _⟩ := OR.out.shape; clear GR b6))
          have jL1 := jL _ w6 OL6.out B6.out
          have jR1 := fun w' (hb : Below w6.heap.size w6 w') => jR _ w' (OwnM.below OR.out hb) (B6.out.trans (hb.mono B6.out.size))
          have l0 := L6.out.c0
          have l1 := L6.out.c1
          have B6 := hid B6.out
          have R6 := hid R6.out
          obtain ⟨nL, hnL⟩ : ∃ nL, Hid (KL.length = nL) := ⟨_, rfl⟩
          obtain ⟨nR, hnR⟩ : ∃ nR, Hid (KR.length = nR) := ⟨_, rfl⟩
          rw [hnL.out] at jL1 ⊢
          rw [hnR.out] at jR1 ⊢
          rw [hnL.out, hnR.out] at hfo
          clear jL jR x0 x5 x6 OL6 OR OL L5 R5 L8 R8 B5 B8 iR
          by_cases hz : nL = 0 ∨ nR = 0
          · have er : Hid (foS (f + 1) b n K = none) := by unfold Hid; rw [hfo.out, if_pos hz]
            by_cases hz1 : nL = 0
            · subst hz1
              go_wp2
              go_ret2
              exact ⟨by rw [er.out]; rfl, B6.out⟩
            · obtain rfl : nR = 0 := by omega
              have hz1' : ((nL : Int) == 0) = false := by simp; omega
              go_wp2
              go_ret2
              exact ⟨by rw [er.out]; rfl, B6.out⟩
          · have hz1 : ((nL : Int) == 0) = false := by simp; omega
            have hz2 : ((nR : Int) == 0) = false := by simp; omega
            unfold Hid at hfo
            rw [if_neg hz] at hfo
            have hfo := hid hfo
            obtain ⟨o1, ho1⟩ : ∃ o1, Hid (foS f b (Tree.sp n) KL = o1) := ⟨_, rfl⟩
            obtain ⟨o2, ho2⟩ : ∃ o2, Hid (foS f mid (n - Tree.sp n) KR = o2) := ⟨_, rfl⟩
            rw [ho1.out] at jL1
            rw [ho2.out] at jR1
            unfold Hid at hfo
            rw [ho1.out, ho2.out] at hfo
            have hfo := hid hfo
            clear hz
            cases o1 with
            | none =>
              have er : Hid (foS (f + 1) b n K = none) := hfo.out
              simp only [foV] at jL1
              go_wp2_with (go_at_call 102; (with_reducible refine jL1.mono ?_); rintro r w7 ⟨rfl, hw7⟩)
              go_ret2
              exact ⟨by rw [er.out]; rfl, B6.out.trans (hw7.mono B6.out.size)⟩
            | some x =>
              simp only [foV] at jL1
              cases o2 with
              | none =>
                have er : Hid (foS (f + 1) b n K = none) := hfo.out
                simp only [foV] at jR1
                go_wp2_with (first
                  | (go_at_call 102; (with_reducible refine jL1.mono ?_); clear jL1; rintro r w7 ⟨rfl, hw7⟩; have R7 := R6.out.below hw7; have z0 := R7.c0; have z1 := R7.c1; have jR2 := jR1 w7 hw7; have B7 := hid (B6.out.trans (hw7.mono B6.out.size)))
                  | (go_at_call 102; (with_reducible refine jR2.mono ?_); rintro r w8 ⟨rfl, hw8⟩))
                go_ret2
                exact ⟨by rw [er.out]; rfl, B7.out.trans (hw8.mono B7.out.size)⟩
              | some y =>
                have er : Hid (foS (f + 1) b n K = some ⟨(Tree.nd x.data.toList y.data.toList).toArray⟩) := hfo.out
                simp only [foV] at jR1
                obtain ⟨cd, hcd⟩ : ∃ cd, Hid ((nodeOf x.data.toList y.data.toList).2 = cd) := ⟨_, rfl⟩
                obtain ⟨nv, hnv⟩ : ∃ nv : ByteArray, Hid (⟨(Tree.nd x.data.toList y.data.toList).toArray⟩ = nv) := ⟨_, rfl⟩
                have jN := fun w' (T : Tabs w') => node_any x y w' T
                rw [nodeOf_nd, hcd.out, show sv (Tree.nd x.data.toList y.data.toList) = .string nv by unfold sv; rw [hnv.out]] at jN
                unfold Hid at er
                rw [hnv.out] at er
                have er := hid er
                go_wp2_with (first
                  | (go_at_call 102; (with_reducible refine jL1.mono ?_); clear jL1; rintro r w7 ⟨rfl, hw7⟩; have R7 := R6.out.below hw7; have z0 := R7.c0; have z1 := R7.c1; have jR2 := jR1 w7 hw7; have B7 := hid (B6.out.trans (hw7.mono B6.out.size)))
                  | (go_at_call 102; (with_reducible refine jR2.mono ?_); rintro r w8 ⟨rfl, hw8⟩; have B8 := hid (B7.out.trans (hw8.mono B7.out.size)))
                  | (go_at_call 151; refine (jN _ (HT.out.below B8.out hT)).mono ?_; rintro r w9 ⟨rfl, hw9⟩))
                go_ret2
                exact ⟨by rw [er.out]; rfl, B8.out.trans (hw9.mono B8.out.size)⟩
end Go.Proofs.YtblmaokonhdjaaaGreatDoor

namespace Go.Proofs.YtblmaokonhdjaaaGreatDoor
open Go.RowKit Go.Shelf
/-- H5 -/
def foldA (n : Int) (K : List (Int × Int)) (H : List (List UInt8)) (b e : Int) : ByteArray × Int :=
  if 1 ≤ n ∧ n ≤ 1099511627776 then
    if K.length = H.length ∧ K.length ≤ 4096 then
      if hsB8 H = true then
        if insB n b e = true then
          match foS (e.toNat - b.toNat) b.toNat (e.toNat - b.toNat) (witS b e (prd K (bas H))) with
          | none => (⟨#[]⟩, 82)
          | some s => (s, 0)
        else (⟨#[]⟩, 80)
      else (⟨#[]⟩, 1)
    else (⟨#[]⟩, 83)
  else (⟨#[]⟩, 81)
theorem insB_facts {n b e : Int} (h : insB n b e = true) : 1 ≤ n ∧ n ≤ 1099511627776 ∧ 0 ≤ b ∧ b < e ∧ e ≤ n := by
  unfold insB at h
  rw [Bool.and_eq_true, decide_eq_true_eq] at h
  obtain ⟨h1, h2⟩ := h
  have := Tree.insF_in _ _ _ _ _ h2 (by omega)
  omega
set_option maxRecDepth 100000 in
set_option maxHeartbeats 8000000 in
theorem foldF_any (n : Int) (K : List (Int × Int)) (H : List (List UInt8)) (b e : Int) (ak ah : Option Addr) (ck ch : Nat) (w : World) (hkl : K.length ≤ 9223372036854775807) (hhl : H.length ≤ 9223372036854775807) (hK : AtP w ak K) (hH : At w ah H) (T : Tabs w) :
    Calls Tryz.prog 59 #[.int .i64 n, .slice ak K.length ck, .slice ah H.length ch, sg b e] w fun r w' => r = .returned (.tuple #[.string (foldA n K H b e).1, .int .i64 (foldA n K H b e).2]) ∧ Below w.heap.size w w' := by
  have S0 := hid (SpI.new w b e)
  have B0 := hid ((Below.refl _ w).alloc (Nat.le_refl _) (.cells #[.int .i64 b, .int .i64 e] 50))
  have c0 := S0.out.c0
  have c1 := S0.out.c1
  obtain ⟨A, hA⟩ : ∃ A, Hid (foldA n K H b e = A) := ⟨_, rfl⟩
  rw [hA.out]
  by_cases h1 : 1 ≤ n ∧ n ≤ 1099511627776
  · have i1 := fun w' => isSize_is n true (by simpa using h1) w'
    by_cases h2 : K.length = H.length ∧ K.length ≤ 4096
    · have hH0 : At (w.alloc (.cells #[.int .i64 b, .int .i64 e] 50)) ah H := hH.below B0.out (Nat.le_refl _)
      by_cases h3 : hsB8 H = true
      · have i2 := areHashes8_is H true h3 ah ch _ hhl hH0
        have i3 := fun w' => inside_any n b e w'
        by_cases h4 : insB n b e = true
        · rw [h4] at i3
          have hf := insB_facts h4
          obtain ⟨b', hb'⟩ := Int.eq_ofNat_of_zero_le hf.2.2.1
          obtain ⟨e', he'⟩ := Int.eq_ofNat_of_zero_le (show 0 ≤ e by omega)
          have i4 := fun w' (hb : Below w.heap.size w w') => paired_any K H ak ah ck ch w' h2.1 h2.2 (hK.below hb (Nat.le_refl _)) (hH.below hb (Nat.le_refl _))
          obtain ⟨P, hP⟩ : ∃ P, Hid (prd K (bas H) = P) := ⟨_, rfl⟩
          have lP : Hid (P.length ≤ 4096) := by unfold Hid; rw [← hP.out, prd_len K (bas H) (by unfold bas; rw [List.length_map]; exact h2.1)]; exact h2.2
          rw [hP.out] at i4
          have i5 := fun v w' (ho : OwnS3 w' v P) => within_any b e P v w' ho (by have := lP.out; omega)
          obtain ⟨R, hR⟩ : ∃ R, Hid (witS b e P = R) := ⟨_, rfl⟩
          have lR : Hid (R.length ≤ 4096) := by unfold Hid; rw [← hR.out]; exact Nat.le_trans (witS_len b e P) lP.out
          rw [hR.out] at i5
          have i6 := fun v w' (ho : OwnS3 w' v R) (hb : Below w.heap.size w w') => fold8_any (e' - b') b' (e' - b') R v w' (Nat.le_refl _) (by omega) (by omega) ho lR.out (T.below hb T.lt)
          rw [show b' + (e' - b') = e' by omega, ← hb', ← he'] at i6
          have hAA : Hid (A = match foS (e' - b') b' (e' - b') R with
              | none => (⟨#[]⟩, 82)
              | some s => (s, 0)) := by
            unfold Hid
            rw [← hA.out]
            unfold foldA
            rw [if_pos h1, if_pos h2, if_pos h3, if_pos h4, hP.out, hR.out, hb', he', Int.toNat_natCast, Int.toNat_natCast]
          rw [← h2.1] at i2 i4 ⊢
          have q0 : ¬ (4096 : Int) < (K.length : Int) := by omega
          generalize K.length = m at *
          clear hK hH hH0 T h2 h3 h4 hf h1 hA
          obtain ⟨o, ho⟩ : ∃ o, Hid (foS (e' - b') b' (e' - b') R = o) := ⟨_, rfl⟩
          rw [ho.out] at i6
          unfold Hid at hAA
          rw [ho.out] at hAA
          have hAA := hid hAA
          clear hb' he'
          cases o with
          | none =>
            simp only [foV] at i6
            go_enter Tryz.func59, Tryz.ntmps59
            go_wp2_with (first
              | (go_at_call 99; refine (i1 _).mono ?_; rintro r w' ⟨rfl, rfl⟩)
              | (go_at_call 100; refine i2.mono ?_; rintro r w' ⟨rfl, rfl⟩)
              | (go_at_call 101; refine (i3 _).mono ?_; rintro r w2 ⟨rfl, hw2⟩; have S2 := hid (S0.out.below hw2); have B2 := hid (B0.out.trans (hw2.mono B0.out.size)); clear hw2))
            have x0 := And.intro S2.out.c0 S2.out.c1
            go_region_held3 (fun w' => w'.cell? ⟨w.heap.size, 0, none⟩ = some (.int .i64 b) ∧ w'.cell? ⟨w.heap.size, 1, none⟩ = some (.int .i64 e)) (first | exact x5 | exact x4 | exact x3 | exact x0) (first
              | (go_at_call 104; refine (i4 _ B2.out.drew).mono ?_; rintro r w3 ⟨v3, rfl, G3⟩; have b3 := drewBelow8 G3.below; have B3 := hid (B2.out.trans (b3.mono B2.out.size)); have S3 := hid (S2.out.below b3); have x3 := And.intro S3.out.c0 S3.out.c1; have i5' := i5 _ _ G3.own; obtain ⟨a3, m3, k3, rfl⟩ := ownM_sl G3.own; clear G3 b3)
              | (go_at_call 103; refine i5'.mono ?_; rintro r w4 ⟨v4, rfl, G4⟩; have b4 := G4.below; have B4 := hid (B3.out.trans (b4.mono B3.out.size)); have S4 := hid (S3.out.below b4); have x4 := And.intro S4.out.c0 S4.out.c1; have i6' := i6 _ _ G4.own B4.out; obtain ⟨a4, m4, k4, rfl⟩ := ownM_sl G4.own; clear G4 b4)
              | (go_at_call 102; refine i6'.mono ?_; rintro r w5 ⟨rfl, b5⟩; have B5 := hid (B4.out.trans (b5.mono B4.out.size)); have S5 := hid (S4.out.below b5); have x5 := And.intro S5.out.c0 S5.out.c1; clear b5))
            go_wp2
            go_ret2
            exact ⟨by rw [hAA.out]; rfl, B5.out⟩
          | some s =>
            simp only [foV] at i6
            go_enter Tryz.func59, Tryz.ntmps59
            go_wp2_with (first
              | (go_at_call 99; refine (i1 _).mono ?_; rintro r w' ⟨rfl, rfl⟩)
              | (go_at_call 100; refine i2.mono ?_; rintro r w' ⟨rfl, rfl⟩)
              | (go_at_call 101; refine (i3 _).mono ?_; rintro r w2 ⟨rfl, hw2⟩; have S2 := hid (S0.out.below hw2); have B2 := hid (B0.out.trans (hw2.mono B0.out.size)); clear hw2))
            have x0 := And.intro S2.out.c0 S2.out.c1
            go_region_held3 (fun w' => w'.cell? ⟨w.heap.size, 0, none⟩ = some (.int .i64 b) ∧ w'.cell? ⟨w.heap.size, 1, none⟩ = some (.int .i64 e)) (first | exact x5 | exact x4 | exact x3 | exact x0) (first
              | (go_at_call 104; refine (i4 _ B2.out.drew).mono ?_; rintro r w3 ⟨v3, rfl, G3⟩; have b3 := drewBelow8 G3.below; have B3 := hid (B2.out.trans (b3.mono B2.out.size)); have S3 := hid (S2.out.below b3); have x3 := And.intro S3.out.c0 S3.out.c1; have i5' := i5 _ _ G3.own; obtain ⟨a3, m3, k3, rfl⟩ := ownM_sl G3.own; clear G3 b3)
              | (go_at_call 103; refine i5'.mono ?_; rintro r w4 ⟨v4, rfl, G4⟩; have b4 := G4.below; have B4 := hid (B3.out.trans (b4.mono B3.out.size)); have S4 := hid (S3.out.below b4); have x4 := And.intro S4.out.c0 S4.out.c1; have i6' := i6 _ _ G4.own B4.out; obtain ⟨a4, m4, k4, rfl⟩ := ownM_sl G4.own; clear G4 b4)
              | (go_at_call 102; refine i6'.mono ?_; rintro r w5 ⟨rfl, b5⟩; have B5 := hid (B4.out.trans (b5.mono B4.out.size)); have S5 := hid (S4.out.below b5); have x5 := And.intro S5.out.c0 S5.out.c1; clear b5))
            go_wp2
            go_ret2
            exact ⟨by rw [hAA.out]; rfl, B5.out⟩
        · have h4 : insB n b e = false := by simpa using h4
          rw [h4] at i3
          have hAA : Hid (A = (⟨#[]⟩, 80)) := by
            unfold Hid
            rw [← hA.out]
            unfold foldA
            rw [if_pos h1, if_pos h2, if_pos h3, if_neg (by rw [h4]; simp)]
          rw [← h2.1] at i2 ⊢
          have q0 : ¬ (4096 : Int) < (K.length : Int) := by omega
          generalize K.length = m at *
          clear hK hH hH0 T h2 h3 h4 h1 hA
          go_enter Tryz.func59, Tryz.ntmps59
          go_wp2_with (first
            | (go_at_call 99; refine (i1 _).mono ?_; rintro r w' ⟨rfl, rfl⟩)
            | (go_at_call 100; refine i2.mono ?_; rintro r w' ⟨rfl, rfl⟩)
            | (go_at_call 101; refine (i3 _).mono ?_; rintro r w2 ⟨rfl, hw2⟩; have B2 := hid (B0.out.trans (hw2.mono B0.out.size)); clear hw2))
          go_ret2
          exact ⟨by rw [hAA.out]; rfl, B2.out⟩
      · have h3 : hsB8 H = false := by simpa using h3
        have i2 := areHashes8_is H false h3 ah ch _ hhl hH0
        have hAA : Hid (A = (⟨#[]⟩, 1)) := by
          unfold Hid
          rw [← hA.out]
          unfold foldA
          rw [if_pos h1, if_pos h2, if_neg (by rw [h3]; simp)]
        rw [← h2.1] at i2 ⊢
        have q0 : ¬ (4096 : Int) < (K.length : Int) := by omega
        generalize K.length = m at *
        clear hK hH hH0 T h2 h3 h1 hA
        go_enter Tryz.func59, Tryz.ntmps59
        go_wp2_with (first
          | (go_at_call 99; refine (i1 _).mono ?_; rintro r w' ⟨rfl, rfl⟩)
          | (go_at_call 100; refine i2.mono ?_; rintro r w' ⟨rfl, rfl⟩))
        go_ret2
        exact ⟨by rw [hAA.out]; rfl, B0.out⟩
    · have hAA : Hid (A = (⟨#[]⟩, 83)) := by
        unfold Hid
        rw [← hA.out]
        unfold foldA
        rw [if_pos h1, if_neg h2]
      clear hK hH T h1 hA
      generalize K.length = m at *
      generalize H.length = k at *
      by_cases h5 : m = k
      · subst h5
        have q0 : (4096 : Int) < (m : Int) := by omega
        clear h2
        go_enter Tryz.func59, Tryz.ntmps59
        go_wp2_with (go_at_call 99; refine (i1 _).mono ?_; rintro r w' ⟨rfl, rfl⟩)
        go_ret2
        exact ⟨by rw [hAA.out]; rfl, B0.out⟩
      · have q0 : ((m : Int) != (k : Int)) = true := by simp; omega
        have q1 : ((m : Int) == (k : Int)) = false := by simp; omega
        clear h2
        go_enter Tryz.func59, Tryz.ntmps59
        go_wp2_with (go_at_call 99; refine (i1 _).mono ?_; rintro r w' ⟨rfl, rfl⟩)
        go_ret2
        exact ⟨by rw [hAA.out]; rfl, B0.out⟩
  · have i1 := fun w' => isSize_is n false (by simpa using h1) w'
    have hAA : Hid (A = (⟨#[]⟩, 81)) := by
      unfold Hid
      rw [← hA.out]
      unfold foldA
      rw [if_neg h1]
    clear hK hH T h1 hA
    generalize K.length = m at *
    generalize H.length = k at *
    go_enter Tryz.func59, Tryz.ntmps59
    go_wp2_with (go_at_call 99; refine (i1 _).mono ?_; rintro r w' ⟨rfl, rfl⟩)
    go_ret2
    exact ⟨by rw [hAA.out]; rfl, B0.out⟩
end Go.Proofs.YtblmaokonhdjaaaGreatDoor
