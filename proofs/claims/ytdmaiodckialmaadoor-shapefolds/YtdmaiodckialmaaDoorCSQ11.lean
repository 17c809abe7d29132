import Derived.Test.YtdmaiodckialmaaDoorCSH6
import Derived.Test.YtdmaiodckialmaaDoorCSP4
namespace Go.Proofs.YtdmaiodckialmaaDoor
open Go.RowKit Go.Shelf
/-- how many leaves the span in a block has -/
def spLn (w : World) (g : Nat) : Nat :=
  match w.cell? ⟨g, 0, none⟩, w.cell? ⟨g, 1, none⟩ with
  | some (.int _ b), some (.int _ e) => (e - b).toNat
  | _, _ => 0
theorem SpI.ln {w : World} {g : Nat} {b e : Int} (h : SpI w g b e) : spLn w g = (e - b).toNat := by unfold spLn; rw [h.c0, h.c1]
/-- the span that is asked of, and the one that is gone into -/
structure In2 (w w' : World) (b e : Int) (x y : Nat) : Prop where
  s0 : SpI w' w.heap.size b e
  s1 : SpI w' (w.heap.size + 1) x y
  bel : Below w.heap.size w w'
theorem In2.below {w w' w'' : World} {b e : Int} {x y : Nat} (h : In2 w w' b e x y) (hb : Below w'.heap.size w' w'') : In2 w w'' b e x y := ⟨h.s0.below hb, h.s1.below hb, h.bel.trans (hb.mono h.bel.size)⟩
theorem In2.set {w w' : World} {b e : Int} {x y : Nat} (h : In2 w w' b e x y) (x' y' : Nat) : In2 w ((w'.setCell ⟨w.heap.size + 1, 0, none⟩ (.int .i64 (x' : Int))).setCell ⟨w.heap.size + 1, 1, none⟩ (.int .i64 (y' : Int))) b e x' y' :=
  ⟨((heap_setCell_other _ ⟨w.heap.size + 1, 1, none⟩ w.heap.size _ (by show w.heap.size ≠ w.heap.size + 1; omega)).trans (heap_setCell_other _ ⟨w.heap.size + 1, 0, none⟩ w.heap.size _ (by show w.heap.size ≠ w.heap.size + 1; omega))).trans h.s0, h.s1.two _ _,
   (h.bel.setCell (p := ⟨w.heap.size + 1, 0, none⟩) (Nat.le_succ _) _).setCell (p := ⟨w.heap.size + 1, 1, none⟩) (Nat.le_succ _) _⟩
theorem insB_no {n b e : Int} (h : ¬ (1 ≤ n ∧ n ≤ 1099511627776 ∧ 0 ≤ b ∧ b < e ∧ e ≤ n)) : insB n b e = false := by
  unfold insB
  by_cases h1 : 1 ≤ n ∧ n ≤ 1099511627776 ∧ 0 ≤ b ∧ b < n ∧ 0 ≤ e
  · rw [decide_eq_true h1, Bool.true_and]
    cases hc : Tree.insF n.toNat 0 n.toNat b.toNat e.toNat with
    | false => rfl
    | true =>
      have := Tree.insF_in _ _ _ _ _ hc (by omega)
      omega
  · rw [decide_eq_false h1, Bool.false_and]
set_option maxRecDepth 100000 in
set_option maxHeartbeats 4000000 in
theorem rInside8_ok (N B E : Nat) (h1 : B < E) (h2 : E ≤ N) (h3 : N ≤ 1099511627776) (R : Bool) (hR : Hid (Tree.insF N 0 N B E = R)) (w : World) :
    Calls Tryd.prog 40 #[.int .i64 (N : Int), sg B E] w fun r w' => r = .returned (.bool R) ∧ Below w.heap.size w w' := by
  have S0 := SpI.new w (B : Int) (E : Int)
  have c0 := S0.c0
  have c1 := S0.c1
  have b0 := (Below.refl w.heap.size w).alloc (Nat.le_refl _) (.cells #[.int .i64 (B : Int), .int .i64 (E : Int)] 25)
  have z0 := size_alloc w (.cells #[.int .i64 (B : Int), .int .i64 (E : Int)] 25)
  have S1 := SpI.new (w.alloc (.cells #[.int .i64 (B : Int), .int .i64 (E : Int)] 25)) 0 (N : Int)
  rw [z0] at S1
  have b1 := b0.alloc (by omega) (.cells #[.int .i64 0, .int .i64 (N : Int)] 25)
  have D0 : Hid (In2 w ((w.alloc (.cells #[.int .i64 (B : Int), .int .i64 (E : Int)] 25)).alloc (.cells #[.int .i64 0, .int .i64 (N : Int)] 25)) (B : Int) (E : Int) 0 (0 + N)) := ⟨S0.below ((Below.refl _ _).alloc (Nat.le_refl _) _), by rw [Nat.zero_add]; exact S1, b1⟩
  have a1 : ¬ (N : Int) < 1 := by omega
  have a2 : ¬ 1099511627776 < (N : Int) := by omega
  have a3 : ¬ (B : Int) < 0 := by omega
  have a4 : ¬ (E : Int) ≤ (B : Int) := by omega
  have a5 : ¬ (N : Int) < (E : Int) := by omega
  clear S0 S1 b0 b1
  unfold sg
  go_enter Tryd.func40, Tryd.ntmps40
  go_wp2
  generalize (w.alloc (.cells #[.int .i64 (B : Int), .int .i64 (E : Int)] 25)).alloc (.cells #[.int .i64 0, .int .i64 (N : Int)] 25) = wA at *
  clear c0 c1 z0
  go_loopw [6] (fun _ w' => ∃ (x k f : Nat), 1 ≤ k ∧ k ≤ f ∧ x + k ≤ N ∧ Hid (In2 w w' (B : Int) (E : Int) x (x + k)) ∧ Hid (Tree.insF f x k B E = R)) (fun _ w' => spLn w' (w.heap.size + 1))
  case atStart => exact ⟨0, N, N, by omega, Nat.le_refl _, by omega, D0, hR⟩
  case round =>
    clear D0 hR
    obtain ⟨x, k, f, hk1, hkf, hxN, hD, hE⟩ := hrel
    obtain ⟨f, rfl⟩ : ∃ f', f = f' + 1 := ⟨f - 1, by omega⟩
    have c0 := hD.out.s0.c0
    have c1 := hD.out.s0.c1
    have d0 := hD.out.s1.c0
    have d1 := hD.out.s1.c1
    have g0 := hD.out.s1.f0
    have g1 := hD.out.s1.f1
    have hln := hD.out.s1.ln
    have hE := hE.out
    rw [Tree.insF] at hE
    by_cases hq : B = x ∧ E = x + k
    · rw [if_pos hq] at hE
      subst hE
      obtain ⟨rfl, rfl⟩ := hq
      have HB := hid hD.out.bel
      clear hD
      go_wp2
      go_ret
      exact ⟨rfl, HB.out⟩
    · rw [if_neg hq] at hE
      obtain ⟨ee, hee⟩ : ∃ ee, x + k = ee := ⟨_, rfl⟩
      rw [hee] at hD d1 hln hq
      have hcase : (¬ (x : Int) = (B : Int)) ∨ (((x : Int) = (B : Int)) = True ∧ ¬ (ee : Int) = (E : Int)) := by
        by_cases e1 : (x : Int) = (B : Int)
        · exact .inr ⟨eq_true e1, by omega⟩
        · exact .inl e1
      rcases hcase with hne | ⟨hne, hne2⟩
      all_goals
        by_cases hk2 : k < 2
        · rw [if_pos hk2] at hE
          subst hE
          have q1 : (ee : Int) - (x : Int) < 2 := by omega
          have q2 : IntKind.i64.wrap ((ee : Int) - (x : Int)) = (ee : Int) - (x : Int) := by rw [IntKind.wrap_i64]; omega
          have HB := hid hD.out.bel
          clear hD
          go_wp2
          go_ret
          exact ⟨rfl, HB.out⟩
        · rw [if_neg hk2] at hE
          have q1 : ¬ (ee : Int) - (x : Int) < 2 := by omega
          have q2 : IntKind.i64.wrap ((ee : Int) - (x : Int)) = (ee : Int) - (x : Int) := by rw [IntKind.wrap_i64]; omega
          have s1 := Tree.sp_lt (n := k) (by omega)
          have s2 := Tree.sp_pos (n := k) (by omega)
          obtain ⟨mid, hmid⟩ : ∃ mid, x + Tree.sp k = mid := ⟨_, rfl⟩
          have hmh : Hid (mid = x + Tree.sp (ee - x)) := by rw [Hid, show ee - x = k by omega]; exact hmid.symm
          have i1 := fun w' => rMiddle_at x ee mid (by omega) (by omega) hmh w'
          have i2 := fun w' => rleft_at x ee mid (by omega) (by omega) hmh w'
          have i3 := fun w' => rright_at x ee mid (by omega) (by omega) hmh w'
          unfold sg at i1 i2 i3
          rw [hmid] at hE
          by_cases t1 : E ≤ mid
          · have t1' : (E : Int) ≤ (mid : Int) := by omega
            rw [if_pos t1] at hE
            have HE := hid hE
            have hsum : x + Tree.sp k = mid := hmid
            have HD := hD
            clear hD hE hmh
            go_wp2_with (go_at_call 24; fail)
            refine (i1 _).mono ?_
            rintro r wa ⟨rfl, ba⟩
            have HDa := hid (HD.out.below ba)
            have c0 := HDa.out.s0.c0
            have c1 := HDa.out.s0.c1
            have d0 := HDa.out.s1.c0
            have d1 := HDa.out.s1.c1
            clear ba HD g0 g1
            go_wp2_with (go_at_call 44; fail)
            refine (i2 _).mono ?_
            rintro r wb ⟨rfl, bb⟩
            have HDb := HDa.out.below bb
            have d0 := HDb.s1.c0
            have d1 := HDb.s1.c1
            have g0 := HDb.s1.f0
            have g1 := HDb.s1.f1
            have HDf := hid (HDb.set x mid)
            have hln2 := HDf.out.s1.ln
            clear bb HDa HDb
            go_wp2
            refine ⟨⟨x, Tree.sp k, f, by omega, by omega, by omega, by rw [hsum]; exact HDf, HE⟩, ?_⟩
            rw [hln, hln2]
            omega
          · have t1' : ¬ (E : Int) ≤ (mid : Int) := by omega
            rw [if_neg t1] at hE
            by_cases t2 : mid ≤ B
            · have t2' : (mid : Int) ≤ (B : Int) := by omega
              rw [if_pos t2] at hE
              have HE := hid hE
              have hsum : mid + (k - Tree.sp k) = ee := by omega
              have HD := hD
              clear hD hE hmh
              go_wp2_with (go_at_call 24; fail)
              refine (i1 _).mono ?_
              rintro r wa ⟨rfl, ba⟩
              have HDa := hid (HD.out.below ba)
              have c0 := HDa.out.s0.c0
              have c1 := HDa.out.s0.c1
              have d0 := HDa.out.s1.c0
              have d1 := HDa.out.s1.c1
              clear ba HD g0 g1
              go_wp2_with (go_at_call 45; fail)
              refine (i3 _).mono ?_
              rintro r wb ⟨rfl, bb⟩
              have HDb := HDa.out.below bb
              have d0 := HDb.s1.c0
              have d1 := HDb.s1.c1
              have g0 := HDb.s1.f0
              have g1 := HDb.s1.f1
              have HDf := hid (HDb.set mid ee)
              have hln2 := HDf.out.s1.ln
              clear bb HDa HDb
              go_wp2
              refine ⟨⟨mid, k - Tree.sp k, f, by omega, by omega, by omega, by rw [hsum]; exact HDf, HE⟩, ?_⟩
              rw [hln, hln2]
              omega
            · have t2' : ¬ (mid : Int) ≤ (B : Int) := by omega
              rw [if_neg t2] at hE
              subst hE
              have HD := hD
              clear hD hmh
              go_wp2_with (go_at_call 24; fail)
              refine (i1 _).mono ?_
              rintro r wa ⟨rfl, ba⟩
              have HDa := hid (HD.out.below ba)
              have c0 := HDa.out.s0.c0
              have c1 := HDa.out.s0.c1
              have HB := hid HDa.out.bel
              clear ba HD g0 g1 HDa
              go_wp2
              go_ret
              exact ⟨rfl, HB.out⟩
set_option maxRecDepth 100000 in
set_option maxHeartbeats 4000000 in
theorem rInside8_any (n b e : Int) (w : World) : Calls Tryd.prog 40 #[.int .i64 n, sg b e] w fun r w' => r = .returned (.bool (insB n b e)) ∧ Below w.heap.size w w' := by
  by_cases hc : 1 ≤ n ∧ n ≤ 1099511627776 ∧ 0 ≤ b ∧ b < e ∧ e ≤ n
  · obtain ⟨N, rfl⟩ : ∃ N : Nat, n = (N : Int) := ⟨n.toNat, by omega⟩
    obtain ⟨B, rfl⟩ : ∃ B : Nat, b = (B : Int) := ⟨b.toNat, by omega⟩
    obtain ⟨E, rfl⟩ : ∃ E : Nat, e = (E : Int) := ⟨e.toNat, by omega⟩
    have e1 : insB (N : Int) (B : Int) (E : Int) = Tree.insF N 0 N B E := by
      unfold insB
      rw [decide_eq_true (show 1 ≤ (N : Int) ∧ (N : Int) ≤ 1099511627776 ∧ 0 ≤ (B : Int) ∧ (B : Int) < (N : Int) ∧ 0 ≤ (E : Int) from ⟨hc.1, hc.2.1, hc.2.2.1, by omega, by omega⟩), Bool.true_and, Int.toNat_natCast, Int.toNat_natCast, Int.toNat_natCast]
    exact rInside8_ok N B E (by omega) (by omega) (by omega) _ (hid e1.symm) w
  · rw [insB_no hc]
    have S0 := SpI.new w b e
    have c0 := S0.c0
    have c1 := S0.c1
    have HB := hid ((Below.refl w.heap.size w).alloc (Nat.le_refl _) (.cells #[.int .i64 b, .int .i64 e] 25))
    clear S0
    unfold sg
    by_cases h1 : n < 1
    · go_enter Tryd.func40, Tryd.ntmps40
      go_wp2
      go_ret
      exact ⟨rfl, HB.out⟩
    · by_cases h2 : 1099511627776 < n
      · go_enter Tryd.func40, Tryd.ntmps40
        go_wp2
        go_ret
        exact ⟨rfl, HB.out⟩
      · by_cases h3 : b < 0
        · go_enter Tryd.func40, Tryd.ntmps40
          go_wp2
          go_ret
          exact ⟨rfl, HB.out⟩
        · by_cases h4 : e ≤ b
          · go_enter Tryd.func40, Tryd.ntmps40
            go_wp2
            go_ret
            exact ⟨rfl, HB.out⟩
          · have h5 : n < e := by omega
            go_enter Tryd.func40, Tryd.ntmps40
            go_wp2
            go_ret
            exact ⟨rfl, HB.out⟩
end Go.Proofs.YtdmaiodckialmaaDoor

namespace Go.Proofs.YtdmaiodckialmaaDoor
open Go.RowKit Go.Shelf
theorem ksp_prd : ∀ (K : List (Int × Int)) (H : List ByteArray), K.length = H.length → ksp (prd K H) = K
  | [], [], _ => rfl
  | k :: K, h :: H, e => by
    have ih := ksp_prd K H (by simpa using e)
    unfold ksp at ih ⊢
    rw [prd, List.map_cons, ih]
  | [], _ :: _, e => by simp at e
  | _ :: _, [], e => by simp at e
theorem prd_hash {K : List (Int × Int)} {H : List (List UInt8)} (hl : K.length = H.length) (i : Nat) (q : Sub) (h : (prd K (bas H))[i]? = some q) : ∃ x, H[i]? = some x ∧ q.2 = ⟨x.toArray⟩ := by
  have hb : (bas H).length = H.length := by simp [bas]
  have hi := (List.getElem?_eq_some_iff.1 h).1
  rw [prd_len _ _ (by rw [hb]; exact hl)] at hi
  have hiH : i < H.length := by omega
  have e1 : (bas H)[i]? = some ⟨H[i].toArray⟩ := by unfold bas; rw [List.getElem?_map, List.getElem?_eq_getElem hiH]; rfl
  have := prd_get (List.getElem?_eq_getElem hi) e1
  rw [this] at h
  obtain rfl := Option.some.inj h
  exact ⟨_, List.getElem?_eq_getElem hiH, rfl⟩
theorem hs_no {H : List (List UInt8)} {k : Nat} (hk : k < H.length) (h : H[k].length ≠ 32) : hsB8 H = false := by
  cases hc : hsB8 H with
  | false => rfl
  | true =>
    unfold hsB8 at hc
    rw [List.all_eq_true] at hc
    have := hc H[k] (List.getElem_mem hk)
    simp at this
    exact absurd this h
theorem hs_yes {H : List (List UInt8)} (h : ∀ j, j < H.length → ∀ x, H[j]? = some x → x.length = 32) : hsB8 H = true := by
  unfold hsB8
  rw [List.all_eq_true]
  intro x hx
  obtain ⟨j, hj⟩ := List.getElem?_of_mem hx
  simp [h j (List.getElem?_eq_some_iff.1 hj).1 x hj]
set_option maxRecDepth 100000 in
set_option maxHeartbeats 1000000 in
theorem rFold8_any (n : Int) (K : List (Int × Int)) (H : List (List UInt8)) (b e : Int) (ak ah : Option Addr) (ck ch : Nat) (w : World) (hkl : K.length ≤ 9223372036854775800) (hhl : H.length ≤ 9223372036854775800) (hK : AtQ w ak K) (hH : At w ah H) :
    Calls Tryd.prog 21 #[.int .i64 n, .slice ak K.length ck, .slice ah H.length ch, sg b e] w fun r w' => r = .returned (.tuple #[.string (foldA n K H b e).1, .int .i64 (foldA n K H b e).2]) ∧ Below w.heap.size w w' := by
  have S0 := SpI.new w b e
  have B0 := hid ((Below.refl w.heap.size w).alloc (Nat.le_refl _) (.cells #[.int .i64 b, .int .i64 e] 25))
  have AK := hid (fun w' (h : Below w.heap.size w w') => hK.below h (Nat.le_refl _))
  have AH := hid (fun w' (h : Below w.heap.size w w') => hH.below h (Nat.le_refl _))
  obtain ⟨mk, hmk⟩ : ∃ mk, K.length = mk := ⟨_, rfl⟩
  obtain ⟨mh, hmh⟩ : ∃ mh, H.length = mh := ⟨_, rfl⟩
  rw [hmk] at hkl ⊢
  rw [hmh] at hhl ⊢
  unfold sg
  by_cases h1 : 1 ≤ n ∧ n ≤ 1099511627776
  · have a1 : ¬ n < 1 := by omega
    have a2 : ¬ 1099511627776 < n := by omega
    by_cases h2 : K.length = H.length ∧ K.length ≤ 4096
    · have hml : mk = mh := by omega
      have a3 : ¬ 4096 < (mk : Int) := by omega
      have z0 : ((mh : Int) == (mh : Int)) = true := by simp
      have HMH := hid hmh
      have HMK := hid hmk
      subst hml
      generalize hwA : w.alloc (.cells #[.int .i64 b, .int .i64 e] 25) = wA at *
      have HS := hid S0
      obtain ⟨A, hA⟩ : ∃ A, foldA n K H b e = A := ⟨_, rfl⟩
      have HA := hid hA
      rw [hA]
      clear hK hH S0 hmk hmh hA
      go_enter Tryd.func21, Tryd.ntmps21
      go_wp2
      go_loopw [10] (fun i w' => ∃ k : Nat, k ≤ mk ∧ i = .int .i64 (k : Int) ∧ Hid (∀ j, j < k → ∀ x, H[j]? = some x → x.length = 32) ∧ w' = wA) (fun i _ => mk - (intOf i).toNat)
      case atStart => exact ⟨0, Nat.zero_le _, rfl, hid (fun j hj => by omega), rfl⟩
      case round =>
        obtain ⟨k, hk, rfl, hO, hw⟩ := hrel
        rw [hw]
        clear hw
        by_cases hkn : k < mk
        · have b0 : (k : Int) < (mk : Int) := by omega
          have b1 : (0 : Int) ≤ (k : Int) := by omega
          have hkH : k < H.length := by rw [HMH.out]; exact hkn
          obtain ⟨y, hy, _, cx⟩ := (AH.out _ B0.out) k H[k] (List.getElem?_eq_getElem hkH)
          subst hy
          have hsz := sv_size H[k]
          by_cases hx : H[k].length = 32
          · have c0 : (((ByteArray.mk H[k].toArray).size : Int) != 32) = false := by rw [hsz, hx]; rfl
            have hO2 : Hid (∀ j, j < k + 1 → ∀ x, H[j]? = some x → x.length = 32) := fun j hj x hjx => by
              by_cases hjk : j < k
              · exact hO.out j hjk x hjx
              · obtain rfl : j = k := by omega
                rw [List.getElem?_eq_getElem hkH] at hjx
                obtain rfl := Option.some.inj hjx
                exact hx
            rw [show sv H[k] = Value.string ⟨H[k].toArray⟩ from rfl] at cx
            generalize (⟨H[k].toArray⟩ : ByteArray) = xb at *
            clear hsz hx
            go_wp2
            exact ⟨⟨k + 1, by omega, by go_num, hO2, trivial⟩, by simp [intOf]; omega⟩
          · have c0 : (((ByteArray.mk H[k].toArray).size : Int) != 32) = true := by rw [hsz]; simp; omega
            have hres : A = (⟨#[]⟩, 1) := by rw [← HA.out]; unfold foldA; rw [if_pos h1, if_pos h2, hs_no hkH hx, if_neg (by simp)]
            rw [show sv H[k] = Value.string ⟨H[k].toArray⟩ from rfl] at cx
            generalize (⟨H[k].toArray⟩ : ByteArray) = xb at *
            subst hres
            clear hsz hx HA
            go_wp2
            go_ret2
            exact ⟨rfl, B0.out⟩
        · obtain rfl : k = mk := by omega
          have b0 : ¬ (k : Int) < (k : Int) := by omega
          have hall : hsB8 H = true := hs_yes (fun j hj x hx => hO.out j (by rw [← HMH.out]; exact hj) x hx)
          have i1 := rInside8_any n b e wA
          have s0 := HS.out.c0
          have s1 := HS.out.c1
          cases hI : insB n b e with
          | false =>
            rw [hI] at i1
            unfold sg at i1
            have hres : A = (⟨#[]⟩, 80) := by rw [← HA.out]; unfold foldA; rw [if_pos h1, if_pos h2, if_pos hall, hI, if_neg (by simp)]
            subst hres
            clear hall hI HA hO
            go_wp2_with (go_at_call 40; refine i1.mono ?_; rintro r w1 ⟨rfl, b1⟩; have B1 := hid (B0.out.trans (b1.mono B0.out.size)); clear b1)
            go_ret2
            exact ⟨rfl, B1.out⟩
          | true =>
            rw [hI] at i1
            have hin : 0 ≤ b ∧ b < e ∧ e ≤ n := by
              by_cases hc : 1 ≤ n ∧ n ≤ 1099511627776 ∧ 0 ≤ b ∧ b < e ∧ e ≤ n
              · exact ⟨hc.2.2.1, hc.2.2.2.1, hc.2.2.2.2⟩
              · rw [insB_no hc] at hI; cases hI
            obtain ⟨B, rfl⟩ : ∃ B : Nat, b = (B : Int) := ⟨b.toNat, by omega⟩
            obtain ⟨E, rfl⟩ : ∃ E : Nat, e = (E : Int) := ⟨e.toNat, by omega⟩
            obtain ⟨N, hN⟩ : ∃ N, E - B = N := ⟨_, rfl⟩
            obtain rfl : E = B + N := by omega
            have hbl : K.length = (bas H).length := by unfold bas; rw [List.length_map]; exact h2.1
            have eK := ksp_prd K (bas H) hbl
            have iF := fun w' (h : Below w.heap.size w w') => rFolds8_any (K := prd K (bas H)) (a := ak) (c := ck) (by rw [eK, HMK.out]; exact hkl) N B N w' (Nat.le_refl _) (by omega) (by omega) (by rw [eK]; exact AK.out _ h)
            rw [eK, HMK.out] at iF
            have fs := foS_fd N B N (prd K (bas H)) (Nat.le_refl _) (by omega)
            cases hB : fdB N B N (prd K (bas H)) with
            | false =>
              rw [hB] at iF fs
              have hres : A = (⟨#[]⟩, 82) := by
                rw [← HA.out]; unfold foldA
                rw [if_pos h1, if_pos h2, if_pos hall, hI, if_pos rfl, Int.toNat_natCast, Int.toNat_natCast, Nat.add_sub_cancel_left, fs, if_neg (by simp)]
              subst hres
              unfold sg at i1 iF
              clear hall hI HA hO hB fs eK
              go_wp2_with (go_at_call 40; refine i1.mono ?_; rintro r w1 ⟨rfl, b1⟩; have B1 := hid (B0.out.trans (b1.mono B0.out.size)); have S1 := HS.out.below b1; have t0 := S1.c0; have t1 := S1.c1; clear b1)
              go_wp2_with (go_at_call 41; fail)
              refine (iF _ B1.out).mono ?_
              rintro r w2 ⟨rfl, b2⟩
              have B2 := hid (B1.out.trans (b2.mono B1.out.size))
              clear b2 S1
              go_wp2
              go_ret2
              exact ⟨rfl, B2.out⟩
            | true =>
              have iH := fun w' (h : Below w.heap.size w w') => rfolded8_any (K := prd K (bas H)) (H := H) (a := ak) (ah := ah) (c := ck) (ch := ch) (by rw [eK, HMK.out]; exact hkl) (fun i q hq => prd_hash h2.1 i q hq) N B N w' (Nat.le_refl _) (by omega) (by omega) hB (by rw [eK]; exact AK.out _ h) (AH.out _ h)
              rw [eK, HMK.out, HMH.out] at iH
              rw [hB] at iF fs
              have hres : A = (fdH N B N (prd K (bas H)), 0) := by
                rw [← HA.out]; unfold foldA
                rw [if_pos h1, if_pos h2, if_pos hall, hI, if_pos rfl, Int.toNat_natCast, Int.toNat_natCast, Nat.add_sub_cancel_left, fs, if_pos rfl]
              obtain ⟨D, hD⟩ : ∃ D, fdH N B N (prd K (bas H)) = D := ⟨_, rfl⟩
              rw [hD] at hres iH
              subst hres
              unfold sg at i1 iF iH
              clear hall hI HA hO hB fs eK hD
              go_wp2_with (go_at_call 40; refine i1.mono ?_; rintro r w1 ⟨rfl, b1⟩; have B1 := hid (B0.out.trans (b1.mono B0.out.size)); have S1 := HS.out.below b1; have t0 := S1.c0; have t1 := S1.c1; clear b1)
              go_wp2_with (go_at_call 41; fail)
              refine (iF _ B1.out).mono ?_
              rintro r w2 ⟨rfl, b2⟩
              have B2 := hid (B1.out.trans (b2.mono B1.out.size))
              have S2 := S1.below b2
              have u0 := S2.c0
              have u1 := S2.c1
              clear b2 S1 t0 t1
              go_wp2_with (go_at_call 42; fail)
              refine (iH _ B2.out).mono ?_
              rintro r w3 ⟨rfl, b3⟩
              go_wp2
              go_ret2
              exact ⟨rfl, B2.out.trans (b3.mono B2.out.size)⟩
    · have hres : foldA n K H b e = (⟨#[]⟩, 83) := by unfold foldA; rw [if_pos h1, if_neg h2]
      rw [hres]
      clear hK hH AK AH S0 hres
      by_cases h3 : mk = mh
      · subst h3
        have a3 : 4096 < (mk : Int) := by omega
        have z0 : ((mk : Int) == (mk : Int)) = true := by simp
        go_enter Tryd.func21, Tryd.ntmps21
        go_wp2
        go_ret2
        exact ⟨rfl, B0.out⟩
      · have z0 : ((mk : Int) == (mh : Int)) = false := by simp; omega
        have z1 : ¬ (mk : Int) = (mh : Int) := by omega
        go_enter Tryd.func21, Tryd.ntmps21
        go_wp2
        go_ret2
        exact ⟨rfl, B0.out⟩
  · have hres : foldA n K H b e = (⟨#[]⟩, 81) := by unfold foldA; rw [if_neg h1]
    rw [hres]
    clear hK hH AK AH S0 hres
    by_cases h3 : n < 1
    · go_enter Tryd.func21, Tryd.ntmps21
      go_wp2
      go_ret2
      exact ⟨rfl, B0.out⟩
    · have h4 : 1099511627776 < n := by omega
      go_enter Tryd.func21, Tryd.ntmps21
      go_wp2
      go_ret2
      exact ⟨rfl, B0.out⟩
end Go.Proofs.YtdmaiodckialmaaDoor
