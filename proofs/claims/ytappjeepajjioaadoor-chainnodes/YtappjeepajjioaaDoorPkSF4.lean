import Derived.Test.YtappjeepajjioaaDoorPkCP9
import Derived.Test.YtappjeepajjioaaDoorPkCK4
import Derived.Test.YtappjeepajjioaaDoorPkFN1
import Derived.Test.YtappjeepajjioaaDoorPkI1
import Derived.Test.YtappjeepajjioaaDoorPkW7
import Derived.Test.YtappjeepajjioaaDoorPkSP28
namespace Go.Proofs.YtappjeepajjioaaDoor
open Go.RowKit Go.Shelf
theorem nodeOf_nd8 (l r : List UInt8) : (nodeOf l r).1 = Tree.nd l r := by
  unfold nodeOf Tree.nd
  split <;> rfl
theorem ksp_lt {K : List Sub} {j : Nat} {q : Int × Int} (h : (ksp K)[j]? = some q) : j < (ksp K).length := (List.getElem?_eq_some_iff.1 h).1
set_option maxRecDepth 100000 in
set_option maxHeartbeats 1000000 in
theorem rFolds8_any {K : List Sub} {a : Option Addr} {c : Nat} (hl : (ksp K).length ≤ 9223372036854775800) : ∀ (f b n : Nat) (w : World), n ≤ f → 1 ≤ n → b + n ≤ 1099511627776 → AtQ w a (ksp K) →
    Calls Tryd.prog 45 #[.slice a (ksp K).length c, sg b (b + n : Nat)] w fun r w' => r = .returned (.bool (fdB f b n K)) ∧ Below w.heap.size w w' := by
  intro f
  induction f with
  | zero => intro b n w hf h1; omega
  | succ f ih =>
    intro b n w hf h1 hb hK
    obtain ⟨ee, hee⟩ : ∃ ee, b + n = ee := ⟨_, rfl⟩
    rw [fdB]
    rw [hee]
    have hen : ee - b = n := by omega
    have S0 := SpI.new w (b : Int) (ee : Int)
    have B0 := hid ((Below.refl w.heap.size w).alloc (Nat.le_refl _) (.cells #[.int .i64 (b : Int), .int .i64 (ee : Int)] 45))
    have c0 := S0.c0
    have c1 := S0.c1
    have AK := hid (fun w' (h : Below w.heap.size w w') => hK.below h (Nat.le_refl _))
    have HS := hid S0
    cases hF : fdF K (b : Int) (ee : Int) with
    | some q =>
      obtain ⟨i, h2, _, h3⟩ := fdF_at hF
      have i1 := stands8_at (ksp K) (b : Int) (ee : Int) a c (w.alloc (.cells #[.int .i64 (b : Int), .int .i64 (ee : Int)] 45)) hl (AK.out _ B0.out) i h2 h3
      rw [if_pos (by simp)]
      generalize (ksp K).length = m at *
      unfold sg at i1 ⊢
      have x0 : (0 : Int) ≤ (i : Int) := by omega
      clear hK ih AK hF h2 h3
      go_enter Tryd.func45, Tryd.ntmps45
      go_wp2_with (go_at_call 60; refine i1.mono ?_; rintro r w1 ⟨rfl, b1⟩)
      go_ret
      exact ⟨rfl, B0.out.trans (b1.mono B0.out.size)⟩
    | none =>
      have i1 := stands8_no (ksp K) (b : Int) (ee : Int) a c (w.alloc (.cells #[.int .i64 (b : Int), .int .i64 (ee : Int)] 45)) hl (AK.out _ B0.out) (fun j _ => fdF_no hF j)
      rw [if_neg (by simp)]
      have i2 : ∀ w' (v : Bool), v = decide (¬ (witS (b : Int) (ee : Int) K).length = 0) → Below w.heap.size w w' → Calls Tryd.prog 61 #[.slice a (ksp K).length c, sg b ee] w' fun r w'' => r = .returned (.bool v) ∧ Below w'.heap.size w' w'' := fun w' v hv hb' => by
        by_cases hw : (witS (b : Int) (ee : Int) K).length = 0
        · rw [hv, decide_eq_false (fun h => h hw)]
          exact within8_no (ksp K) (b : Int) (ee : Int) a c w' hl (AK.out _ hb') (fun j x y _ e => wit_no hw j x y e)
        · rw [hv, decide_eq_true hw]
          obtain ⟨i, x, y, h2, h3, h4⟩ := wit_at hw
          exact within8_at (ksp K) (b : Int) (ee : Int) a c w' hl (AK.out _ hb') i x y h2 h3 h4
      have i2f := fun w' => i2 w' false
      have i2t := fun w' => i2 w' true
      unfold sg at i1 i2f i2t ⊢
      by_cases hn2 : n < 2
      · rw [if_pos (.inl hn2)]
        obtain ⟨v, hv⟩ : ∃ v, v = decide (¬ (witS (b : Int) (ee : Int) K).length = 0) := ⟨_, rfl⟩
        have i3 := fun w' hb' => i2 w' v hv hb'
        unfold sg at i3
        generalize (ksp K).length = m at *
        have q1 : (ee : Int) - (b : Int) < 2 := by omega
        have q2 : IntKind.i64.wrap ((ee : Int) - (b : Int)) = (ee : Int) - (b : Int) := by rw [IntKind.wrap_i64]; omega
        clear hK ih AK hF hv i2 i2f i2t
        go_enter Tryd.func45, Tryd.ntmps45
        go_wp2_with (go_at_call 60; refine i1.mono ?_; rintro r w1 ⟨rfl, b1⟩; have B1 := hid (B0.out.trans (b1.mono B0.out.size)); have S1 := HS.out.below b1; have d0 := S1.c0; have d1 := S1.c1; clear b1)
        go_wp2_with (go_at_call 61; fail)
        refine (i3 _ B1.out).mono ?_
        rintro r w2 ⟨rfl, b2⟩
        have S2 := S1.below b2
        have e0 := S2.c0
        have e1 := S2.c1
        have B2 := hid (B1.out.trans (b2.mono B1.out.size))
        clear S1 S2 b2 d0 d1
        go_wp2
        go_ret
        exact ⟨rfl, B2.out⟩
      · have q1 : ¬ (ee : Int) - (b : Int) < 2 := by omega
        have q2 : IntKind.i64.wrap ((ee : Int) - (b : Int)) = (ee : Int) - (b : Int) := by rw [IntKind.wrap_i64]; omega
        by_cases hw : (witS (b : Int) (ee : Int) K).length = 0
        · rw [if_pos (.inr hw)]
          have i3 := fun w' hb' => i2f w' (by rw [decide_eq_false (fun h => h hw)]) hb'
          generalize (ksp K).length = m at *
          clear hK ih AK hF i2 i2f i2t hw
          go_enter Tryd.func45, Tryd.ntmps45
          go_wp2_with (go_at_call 60; refine i1.mono ?_; rintro r w1 ⟨rfl, b1⟩; have B1 := hid (B0.out.trans (b1.mono B0.out.size)); have S1 := HS.out.below b1; have d0 := S1.c0; have d1 := S1.c1; clear b1)
          go_wp2_with (go_at_call 61; fail)
          refine (i3 _ B1.out).mono ?_
          rintro r w2 ⟨rfl, b2⟩
          have S2 := S1.below b2
          have e0 := S2.c0
          have e1 := S2.c1
          have B2 := hid (B1.out.trans (b2.mono B1.out.size))
          clear S1 S2 b2 d0 d1
          go_wp2
          go_ret
          exact ⟨rfl, B2.out⟩
        · rw [if_neg (by omega)]
          have i3 := fun w' hb' => i2t w' (by rw [decide_eq_true hw]) hb'
          have s1 := Tree.sp_lt (n := n) (by omega)
          have s2 := Tree.sp_pos (n := n) (by omega)
          obtain ⟨mid, hmid⟩ : ∃ mid, b + Tree.sp n = mid := ⟨_, rfl⟩
          have hmh : Hid (mid = b + Tree.sp (ee - b)) := by rw [Hid, hen]; exact hmid.symm
          have iL := fun w' => rleft_at b ee mid (by omega) (by omega) hmh w'
          have iR := fun w' => rright_at b ee mid (by omega) (by omega) hmh w'
          have jL := fun w' (h : Below w.heap.size w w') => ih b (Tree.sp n) w' (by omega) (by omega) (by omega) (AK.out _ h)
          have jR := fun w' (h : Below w.heap.size w w') => ih (b + Tree.sp n) (n - Tree.sp n) w' (by omega) (by omega) (by omega) (AK.out _ h)
          rw [show b + Tree.sp n + (n - Tree.sp n) = ee by omega] at jR
          rw [hmid] at jL jR ⊢
          unfold sg at iL iR jL jR
          generalize fdB f b (Tree.sp n) K = vL at *
          generalize fdB f mid (n - Tree.sp n) K = vR at *
          generalize (ksp K).length = m at *
          clear hK ih AK hF i2 i2f i2t hw hmh
          have go1 : True := trivial
          cases vL with
          | false =>
            rw [Bool.false_and]
            go_enter Tryd.func45, Tryd.ntmps45
            go_wp2_with (go_at_call 60; refine i1.mono ?_; rintro r w1 ⟨rfl, b1⟩; have B1 := hid (B0.out.trans (b1.mono B0.out.size)); have S1 := HS.out.below b1; have d0 := S1.c0; have d1 := S1.c1; clear b1)
            go_wp2_with (go_at_call 61; fail)
            refine (i3 _ B1.out).mono ?_
            rintro r w2 ⟨rfl, b2⟩
            have S2 := S1.below b2
            have e0 := S2.c0
            have e1 := S2.c1
            have B2 := hid (B1.out.trans (b2.mono B1.out.size))
            clear S1 b2 d0 d1
            go_wp2_with (go_at_call 58; fail)
            refine (iL _).mono ?_
            rintro r w3 ⟨rfl, b3⟩
            have S3 := S2.below b3
            have B3 := hid (B2.out.trans (b3.mono B2.out.size))
            clear S2 b3 e0 e1
            go_wp2_with (go_at_call 45; fail)
            refine (jL _ B3.out).mono ?_
            rintro r w4 ⟨rfl, b4⟩
            have S4 := S3.below b4
            have e0 := S4.c0
            have e1 := S4.c1
            have B4 := hid (B3.out.trans (b4.mono B3.out.size))
            clear S3 b4
            go_wp2
            go_ret
            exact ⟨rfl, B4.out⟩
          | true =>
            rw [Bool.true_and]
            go_enter Tryd.func45, Tryd.ntmps45
            go_wp2_with (go_at_call 60; refine i1.mono ?_; rintro r w1 ⟨rfl, b1⟩; have B1 := hid (B0.out.trans (b1.mono B0.out.size)); have S1 := HS.out.below b1; have d0 := S1.c0; have d1 := S1.c1; clear b1)
            go_wp2_with (go_at_call 61; fail)
            refine (i3 _ B1.out).mono ?_
            rintro r w2 ⟨rfl, b2⟩
            have S2 := S1.below b2
            have e0 := S2.c0
            have e1 := S2.c1
            have B2 := hid (B1.out.trans (b2.mono B1.out.size))
            clear S1 b2 d0 d1
            go_wp2_with (go_at_call 58; fail)
            refine (iL _).mono ?_
            rintro r w3 ⟨rfl, b3⟩
            have S3 := S2.below b3
            have B3 := hid (B2.out.trans (b3.mono B2.out.size))
            clear S2 b3 e0 e1
            go_wp2_with (go_at_call 45; fail)
            refine (jL _ B3.out).mono ?_
            rintro r w4 ⟨rfl, b4⟩
            have S4 := S3.below b4
            have e0 := S4.c0
            have e1 := S4.c1
            have B4 := hid (B3.out.trans (b4.mono B3.out.size))
            clear S3 b4
            go_wp2_with (go_at_call 57; fail)
            refine (iR _).mono ?_
            rintro r w5 ⟨rfl, b5⟩
            have B5 := hid (B4.out.trans (b5.mono B4.out.size))
            clear b5
            go_wp2_with (go_at_call 45; fail)
            refine (jR _ B5.out).mono ?_
            rintro r w6 ⟨rfl, b6⟩
            go_wp2
            go_ret
            exact ⟨rfl, B5.out.trans (b6.mono B5.out.size)⟩
end Go.Proofs.YtappjeepajjioaaDoor

namespace Go.Proofs.YtappjeepajjioaaDoor
open Go.RowKit Go.Shelf
/-- how many leaves the span in a block has -/
def spLn (w : World) (g : Nat) : Nat :=
  match w.cell? ⟨g, 0, none⟩, w.cell? ⟨g, 1, none⟩ with
  | some (.int _ b), some (.int _ e) => (e - b).toNat
  | _, _ => 0
theorem SpI.ln {w : World} {g : Nat} {b e : Int} (h : SpI w g b e) : spLn w g = (e - b).toNat := by unfold spLn; rw [h.c0, h.c1]
/-- the span that is asked of, and the one that is gone into -/
structure In2 (w w' : World) (b e : Int) (x y : Nat) : Prop where
  s0 : SpI w' w.heap.size b e
  s1 : SpI w' (w.heap.size + 1) x y
  bel : Below w.heap.size w w'
theorem In2.below {w w' w'' : World} {b e : Int} {x y : Nat} (h : In2 w w' b e x y) (hb : Below w'.heap.size w' w'') : In2 w w'' b e x y := ⟨h.s0.below hb, h.s1.below hb, h.bel.trans (hb.mono h.bel.size)⟩
theorem In2.set {w w' : World} {b e : Int} {x y : Nat} (h : In2 w w' b e x y) (x' y' : Nat) : In2 w ((w'.setCell ⟨w.heap.size + 1, 0, none⟩ (.int .i64 (x' : Int))).setCell ⟨w.heap.size + 1, 1, none⟩ (.int .i64 (y' : Int))) b e x' y' :=
  ⟨((heap_setCell_other _ ⟨w.heap.size + 1, 1, none⟩ w.heap.size _ (by show w.heap.size ≠ w.heap.size + 1; omega)).trans (heap_setCell_other _ ⟨w.heap.size + 1, 0, none⟩ w.heap.size _ (by show w.heap.size ≠ w.heap.size + 1; omega))).trans h.s0, h.s1.two _ _,
   (h.bel.setCell (p := ⟨w.heap.size + 1, 0, none⟩) (Nat.le_succ _) _).setCell (p := ⟨w.heap.size + 1, 1, none⟩) (Nat.le_succ _) _⟩
theorem insB_no {n b e : Int} (h : ¬ (1 ≤ n ∧ n ≤ 1099511627776 ∧ 0 ≤ b ∧ b < e ∧ e ≤ n)) : insB n b e = false := by
  unfold insB
  by_cases h1 : 1 ≤ n ∧ n ≤ 1099511627776 ∧ 0 ≤ b ∧ b < n ∧ 0 ≤ e
  · rw [decide_eq_true h1, Bool.true_and]
    cases hc : Tree.insF n.toNat 0 n.toNat b.toNat e.toNat with
    | false => rfl
    | true =>
      have := Tree.insF_in _ _ _ _ _ hc (by omega)
      omega
  · rw [decide_eq_false h1, Bool.false_and]
end Go.Proofs.YtappjeepajjioaaDoor

namespace Go.Proofs.YtappjeepajjioaaDoor
open Go.RowKit Go.Shelf
theorem ksp_prd : ∀ (K : List (Int × Int)) (H : List ByteArray), K.length = H.length → ksp (prd K H) = K
  | [], [], _ => rfl
  | k :: K, h :: H, e => by
    have ih := ksp_prd K H (by simpa using e)
    unfold ksp at ih ⊢
    rw [prd, List.map_cons, ih]
  | [], _ :: _, e => by simp at e
  | _ :: _, [], e => by simp at e
theorem prd_hash {K : List (Int × Int)} {H : List (List UInt8)} (hl : K.length = H.length) (i : Nat) (q : Sub) (h : (prd K (bas H))[i]? = some q) : ∃ x, H[i]? = some x ∧ q.2 = ⟨x.toArray⟩ := by
  have hb : (bas H).length = H.length := by simp [bas]
  have hi := (List.getElem?_eq_some_iff.1 h).1
  rw [prd_len _ _ (by rw [hb]; exact hl)] at hi
  have hiH : i < H.length := by omega
  have e1 : (bas H)[i]? = some ⟨H[i].toArray⟩ := by unfold bas; rw [List.getElem?_map, List.getElem?_eq_getElem hiH]; rfl
  have := prd_get (List.getElem?_eq_getElem hi) e1
  rw [this] at h
  obtain rfl := Option.some.inj h
  exact ⟨_, List.getElem?_eq_getElem hiH, rfl⟩
theorem hs_no {H : List (List UInt8)} {k : Nat} (hk : k < H.length) (h : H[k].length ≠ 32) : hsB8 H = false := by
  cases hc : hsB8 H with
  | false => rfl
  | true =>
    unfold hsB8 at hc
    rw [List.all_eq_true] at hc
    have := hc H[k] (List.getElem_mem hk)
    simp at this
    exact absurd this h
theorem hs_yes {H : List (List UInt8)} (h : ∀ j, j < H.length → ∀ x, H[j]? = some x → x.length = 32) : hsB8 H = true := by
  unfold hsB8
  rw [List.all_eq_true]
  intro x hx
  obtain ⟨j, hj⟩ := List.getElem?_of_mem hx
  simp [h j (List.getElem?_eq_some_iff.1 hj).1 x hj]
end Go.Proofs.YtappjeepajjioaaDoor

namespace Go.Proofs.YtappjeepajjioaaDoor
open Go.RowKit Go.Shelf
set_option maxRecDepth 100000 in
set_option maxHeartbeats 1000000 in
theorem rProof8_ok (N idx : Nat) (h0 : 1 ≤ idx) (h1 : idx < N) (h2 : N ≤ 1099511627776) (w : World) :
    Calls Tryd.prog 44 #[.int .i64 (idx : Int), .int .i64 (N : Int)] w (SpP w 0 (Tree.prfF N 0 N idx)) := by
  have S0 := SpI.new w 0 (N : Int)
  have B0 := (Below.refl _ w).alloc (Nat.le_refl _) (.cells #[.int .i64 0, .int .i64 (N : Int)] 45)
  have D0 : Dn w (w.alloc (.cells #[.int .i64 0, .int .i64 (N : Int)] 45)) (.slice none 0 0) 0 (0 + N) [] := ⟨by rw [Nat.zero_add]; exact S0, OwnM.nil 2 _, (fun k hk => by cases hk), B0⟩
  have HD := hid D0
  obtain ⟨R, hR⟩ : ∃ R, Tree.prfF N 0 N idx = R := ⟨_, rfl⟩
  have HR := hid hR
  rw [hR]
  clear S0 B0 D0 hR
  have a1 : ¬ (N : Int) < 1 := by omega
  have a2 : ¬ 1099511627776 < (N : Int) := by omega
  have a3 : ¬ (idx : Int) < 0 := by omega
  have a4 : ¬ (N : Int) ≤ (idx : Int) := by omega
  have a5 : (idx : Int) < (N : Int) := by omega
  go_enter Tryd.func44, Tryd.ntmps44
  go_wp2
  go_loopw [6] (fun v w' => ∃ (b m f : Nat) (l : List (Nat × Nat)), m ≤ f ∧ 1 ≤ m ∧ b < idx ∧ idx ≤ b + m ∧ b + m ≤ N ∧ l.length + m ≤ N ∧ Hid (Dn w w' v b (b + m) l) ∧ Hid (R = Tree.prfF f b m idx ++ l.reverse)) (fun v _ => N - slLen v)
  case atStart => exact ⟨0, N, N, [], Nat.le_refl _, by omega, by omega, by omega, by omega, by simp, HD, by rw [Hid, List.reverse_nil, List.append_nil]; exact HR.out.symm⟩
  case round =>
    clear HD HR
    obtain ⟨b, m, f, l, hmf, hm1, hb1, hb2, hbN, hlN, hD, hE⟩ := hrel
    have hsl := hD.out.ow.slLen
    obtain ⟨va, vc, hva, _, _⟩ := hD.out.ow.shape
    subst hva
    have c0 := hD.out.sp.c0
    have c1 := hD.out.sp.c1
    have g0 := hD.out.sp.f0
    have g1 := hD.out.sp.f1
    by_cases hm2 : b + m ≠ idx
    · have hm2 : 2 ≤ m := by omega
      obtain ⟨f, rfl⟩ : ∃ f', f = f' + 1 := ⟨f - 1, by omega⟩
      have s1 := Tree.sp_lt hm2
      have s2 := Tree.sp_pos hm2
      obtain ⟨mid, hmid⟩ : ∃ mid, b + Tree.sp m = mid := ⟨_, rfl⟩
      have hmh : Hid (mid = b + Tree.sp (b + m - b)) := by rw [Hid, Nat.add_sub_cancel_left]; exact hmid.symm
      have i1 := fun w' => rMiddle_at b (b + m) mid (by omega) (by omega) hmh w'
      have i2 := fun w' => rleft_at b (b + m) mid (by omega) (by omega) hmh w'
      have i3 := fun w' => rright_at b (b + m) mid (by omega) (by omega) hmh w'
      have hE := hE.out
      rw [Tree.prfF] at hE
      rw [if_neg (by omega)] at hE
      have HD := hD
      clear hD hmh
      obtain ⟨ee, hee⟩ : ∃ ee, b + m = ee := ⟨_, rfl⟩
      rw [hee] at HD i1 i2 i3 c1
      have q1 : ¬ (ee : Int) = (idx : Int) := by omega
      by_cases ht : idx ≤ mid
      · have t1 : (idx : Int) ≤ (mid : Int) := by omega
        rw [if_pos (by omega)] at hE
        have hE2 : R = Tree.prfF f b (Tree.sp m) idx ++ (l ++ [(mid, ee)]).reverse := by rw [List.reverse_append, List.reverse_singleton, hE, hmid, hee, List.append_assoc]
        have HE := hid hE2
        have hsum : b + (Tree.sp m) = mid := by omega
        clear hE hE2
        go_wp2_with (go_at_call 56; fail)
        refine (i1 _).mono ?_
        rintro r wa ⟨rfl, ba⟩
        have HDa := hid (HD.out.below ba)
        have e0 := HDa.out.sp.c0
        have e1 := HDa.out.sp.c1
        clear ba c0 c1 g0 g1 HD
        go_wp2_with (go_at_call 57; fail)
        refine (i3 _).mono ?_
        rintro r wb ⟨rfl, bb⟩
        have HDb := HDa.out.below bb
        obtain ⟨v', wc, hap, Oc, Gc⟩ := append_pair wb _ l mid ee HDb.ow (by omega)
        have HDc := hid (HDb.grow Gc Oc)
        have k0 := HDc.out.sp.c0
        have k1 := HDc.out.sp.c1
        clear bb HDb HDa Oc Gc e0 e1
        rw [show sg mid ee = Value.agg #[.int .i64 (mid : Int), .int .i64 (ee : Int)] from rfl]
        go_wp2_with (first
          | (go_at_call 58; fail)
          | (at_builtin; go_must (refine Lib.wpList_append_run _ rfl _ _ 34 34 rfl _ _ rfl rfl _ _ hap ?_)))
        refine (i2 _).mono ?_
        rintro r wd ⟨rfl, bd⟩
        have HDd := HDc.out.below bd
        have n0 := HDd.sp.c0
        have n1 := HDd.sp.c1
        have m0 := HDd.sp.f0
        have m1 := HDd.sp.f1
        have HDf := HDd.set b mid
        have HDf := hid HDf
        have hsl2 := HDd.ow.slLen
        clear bd HDc HDd k0 k1
        rw [show sg b mid = Value.agg #[.int .i64 (b : Int), .int .i64 (mid : Int)] from rfl]
        go_wp2
        refine ⟨⟨b, (Tree.sp m), f, l ++ [(mid, ee)], by omega, by omega, by omega, by omega, by omega, by rw [List.length_append]; simp; omega, by rw [hsum]; exact HDf, HE⟩, ?_⟩
        rw [hsl2, hsl, List.length_append]
        simp
        omega
      · have t1 : ¬ (idx : Int) ≤ (mid : Int) := by omega
        rw [if_neg (by omega)] at hE
        have hE2 : R = Tree.prfF f mid (m - Tree.sp m) idx ++ (l ++ [(b, mid)]).reverse := by rw [List.reverse_append, List.reverse_singleton, hE, hmid, List.append_assoc]
        have HE := hid hE2
        have hsum : mid + (m - Tree.sp m) = ee := by omega
        clear hE hE2
        go_wp2_with (go_at_call 56; fail)
        refine (i1 _).mono ?_
        rintro r wa ⟨rfl, ba⟩
        have HDa := hid (HD.out.below ba)
        have e0 := HDa.out.sp.c0
        have e1 := HDa.out.sp.c1
        clear ba c0 c1 g0 g1 HD
        go_wp2_with (go_at_call 58; fail)
        refine (i2 _).mono ?_
        rintro r wb ⟨rfl, bb⟩
        have HDb := HDa.out.below bb
        obtain ⟨v', wc, hap, Oc, Gc⟩ := append_pair wb _ l b mid HDb.ow (by omega)
        have HDc := hid (HDb.grow Gc Oc)
        have k0 := HDc.out.sp.c0
        have k1 := HDc.out.sp.c1
        clear bb HDb HDa Oc Gc e0 e1
        rw [show sg b mid = Value.agg #[.int .i64 (b : Int), .int .i64 (mid : Int)] from rfl]
        go_wp2_with (first
          | (go_at_call 57; fail)
          | (at_builtin; go_must (refine Lib.wpList_append_run _ rfl _ _ 34 34 rfl _ _ rfl rfl _ _ hap ?_)))
        refine (i3 _).mono ?_
        rintro r wd ⟨rfl, bd⟩
        have HDd := HDc.out.below bd
        have n0 := HDd.sp.c0
        have n1 := HDd.sp.c1
        have m0 := HDd.sp.f0
        have m1 := HDd.sp.f1
        have HDf := HDd.set mid ee
        have HDf := hid HDf
        have hsl2 := HDd.ow.slLen
        clear bd HDc HDd k0 k1
        rw [show sg mid ee = Value.agg #[.int .i64 (mid : Int), .int .i64 (ee : Int)] from rfl]
        go_wp2
        refine ⟨⟨mid, (m - Tree.sp m), f, l ++ [(b, mid)], by omega, by omega, by omega, by omega, by omega, by rw [List.length_append]; simp; omega, by rw [hsum]; exact HDf, HE⟩, ?_⟩
        rw [hsl2, hsl, List.length_append]
        simp
        omega
    · have hm3 : b + m = idx := Classical.not_not.1 hm2
      obtain ⟨f, rfl⟩ : ∃ f', f = f' + 1 := ⟨f - 1, by omega⟩
      have hE := hE.out
      rw [Tree.prfF, if_pos hm3] at hE
      rw [hm3] at c1
      by_cases hb0 : b = 0
      · subst hb0
        rw [if_pos rfl, List.nil_append] at hE
        have i4 := turned_any l va vc wr (by omega) (OwnP.atP hD.out.ow)
        have HB := hid hD.out.bel
        subst hE
        clear hD
        go_wp2_with (first
          | (go_at_call 59; refine i4.mono ?_; rintro r wt ⟨vt, rfl, Ot, Ft, bt⟩; have HO := hid Ot; have HF := hid Ft; have HB2 := hid (HB.out.trans (bt.mono HB.out.size)); have hbs := HB.out.size; clear Ot Ft bt))
        refine bodyPost_ret (results_tmp2 rfl _ _ _) rfl ?_
        exact ⟨HB2.out, vt, rfl, HO.out, fun k hk => Nat.le_trans hbs (HF.out k hk)⟩
      · rw [if_neg hb0] at hE
        have b1 : (0 : Int) < (b : Int) := by omega
        obtain ⟨v', wc, hap, Oc, Gc⟩ := append_pair wr _ l b idx hD.out.ow (by omega)
        have HDc := hD.out.grow Gc Oc
        obtain ⟨va', vc', hva', _, _⟩ := HDc.ow.shape
        subst hva'
        have hE2 : R = (l ++ [(b, idx)]).reverse := by rw [List.reverse_append, List.reverse_singleton, hE, hm3]
        have i4 := turned_any (l ++ [(b, idx)]) va' vc' wc (by rw [List.length_append]; simp; omega) (OwnP.atP HDc.ow)
        have HB := hid HDc.bel
        have hln : (l ++ [(b, idx)]).length = l.length + 1 := by simp
        rw [hln] at i4 hap
        subst hE2
        clear hD HDc Oc Gc hE
        go_wp2_with (first
          | (go_at_call 59; refine i4.mono ?_; rintro r wt ⟨vt, rfl, Ot, Ft, bt⟩; have HO := hid Ot; have HF := hid Ft; have HB2 := hid (HB.out.trans (bt.mono HB.out.size)); have hbs := HB.out.size; clear Ot Ft bt)
          | (at_builtin; go_must (refine Lib.wpList_append_run _ rfl _ _ 34 34 rfl _ _ rfl rfl _ _ hap ?_)))
        refine bodyPost_ret (results_tmp2 rfl _ _ _) rfl ?_
        exact ⟨HB2.out, vt, rfl, HO.out, fun k hk => Nat.le_trans hbs (HF.out k hk)⟩
theorem rProof8_any (m n : Int) (w : World) : Calls Tryd.prog 44 #[.int .i64 m, .int .i64 n] w (SpP w (proofE m n) (proofL m n)) := by
  by_cases h1 : 1 ≤ m ∧ m ≤ n ∧ n ≤ 1099511627776
  · obtain ⟨N, rfl⟩ : ∃ N : Nat, n = (N : Int) := ⟨n.toNat, by omega⟩
    obtain ⟨I, rfl⟩ : ∃ I : Nat, m = (I : Int) := ⟨m.toNat, by omega⟩
    have hE : proofE (I : Int) (N : Int) = 0 := by unfold proofE; rw [if_pos h1]
    have hL : proofL (I : Int) (N : Int) = Tree.prfF N 0 N I := by unfold proofL; rw [if_pos hE, Int.toNat_natCast, Int.toNat_natCast]
    rw [hE, hL]
    by_cases h2 : I = N
    · subst h2
      have e0 : Tree.prfF I 0 I I = [] := by
        obtain ⟨k, rfl⟩ : ∃ k, I = k + 1 := ⟨I - 1, by omega⟩
        rw [Tree.prfF, if_pos (by omega), if_pos rfl]
      rw [e0]
      have fin := SpP.nil (w := w) (c := 0)
      have a1 : ¬ (I : Int) < 1 := by omega
      have a2 : ¬ 1099511627776 < (I : Int) := by omega
      have a3 : ¬ (I : Int) < (I : Int) := by omega
      go_enter Tryd.func44, Tryd.ntmps44
      go_wp2
      refine bodyPost_ret (results_tmp2 rfl _ _ _) rfl ?_
      exact fin
    · exact rProof8_ok N I (by omega) (by omega) (by omega) w
  · have hE : proofE m n = 81 := by unfold proofE; rw [if_neg h1]
    have hL : proofL m n = [] := by unfold proofL; rw [if_neg (by rw [hE]; decide)]
    rw [hE, hL]
    have fin := SpP.nil (w := w) (c := 81)
    go_enter Tryd.func44, Tryd.ntmps44
    by_cases h3 : m < 1
    · go_wp2
      refine bodyPost_ret (results_tmp2 rfl _ _ _) rfl ?_
      exact fin
    · by_cases h4 : n < m
      · go_wp2
        refine bodyPost_ret (results_tmp2 rfl _ _ _) rfl ?_
        exact fin
      · have h5 : 1099511627776 < n := by omega
        go_wp2
        refine bodyPost_ret (results_tmp2 rfl _ _ _) rfl ?_
        exact fin
end Go.Proofs.YtappjeepajjioaaDoor

namespace Go.Proofs.YtappjeepajjioaaDoor
open Go.RowKit Go.Shelf
namespace Chn
/-- the document's Folds, of a list of one's own -/
theorem rFolds13 {w : World} {a : Option Addr} {c n : Nat} {K : List (Nat × Nat)} (hn : Hid (K.length = n)) (ln : n ≤ 1000000) (h : OwnP w (.slice a n c) K) {x y : Nat} (hxy : x < y) (hy : y ≤ 1099511627776) :
    Calls Tryd.prog 45 #[.slice a n c, sg x y] w fun r w' => r = .returned (.bool (can K (x, y))) ∧ Below w.heap.size w w' := by
  have hl : K.length = (List.replicate K.length ([] : List UInt8)).length := by simp
  have hb : (pmC K).length = (bas (List.replicate K.length ([] : List UInt8))).length := by simp [pmC, bas]
  have e := ksp_prd (pmC K) (bas (List.replicate K.length ([] : List UInt8))) hb
  have hA : AtQ w a (ksp (prd (pmC K) (bas (List.replicate K.length ([] : List UInt8))))) := by rw [e]; exact (OwnP.atP h).q
  have hlen : (ksp (prd (pmC K) (bas (List.replicate K.length ([] : List UInt8))))).length = n := by rw [e]; simp [pmC]; exact hn.out
  have := rFolds8_any (K := prd (pmC K) (bas (List.replicate K.length ([] : List UInt8)))) (a := a) (c := c) (by rw [hlen]; omega) (y - x) x (y - x) w (Nat.le_refl _) (by omega) (by omega) hA
  rw [fdB_can hl (y - x) x (y - x) (Nat.le_refl _) (by omega), hlen, show x + (y - x) = y by omega] at this
  exact this
set_option maxRecDepth 100000 in
set_option maxHeartbeats 2000000 in
theorem rHeads_any (cs : List Int) (m : Nat) (HM : Hid (cs.length = m)) (a : Option Addr) (cap : Nat) (w : World) (hc : m ≤ 9223372036854775807) (hA : AtI w a cs) :
    Calls Tryd.prog 15 #[.slice a m cap] w fun r w' => r = .returned (.bool (mayB cs)) ∧ Below w.heap.size w w' := by
  obtain ⟨B, hB⟩ : ∃ B, Hid (mayB cs = B) := ⟨_, rfl⟩
  rw [hB.out]
  have bad : Hid (¬ (1 ≤ m ∧ m ≤ 64 ∧ 1 ≤ cs.getD 0 0 ∧ cs.getD (m - 1) 0 ≤ 1099511627776) → B = false) := fun hn => by
    rw [← hB.out]
    unfold mayB
    rw [HM.out, decide_eq_false hn, Bool.false_and]
  by_cases h1 : m = 0
  · have e := hid (bad.out (by omega))
    subst h1
    clear hA bad
    go_enter Tryd.func15, Tryd.ntmps15
    go_wp2
    go_ret
    exact ⟨by rw [e.out]; rfl, Below.refl _ _⟩
  · obtain ⟨x, rfl⟩ := hA.pos (by rw [HM.out]; omega)
    have q1 : ¬ (m : Int) < 1 := by omega
    have q0 : (0 : Int) < (m : Int) := by omega
    by_cases h2 : 64 < m
    · have e := hid (bad.out (by omega))
      have q2 : (64 : Int) < (m : Int) := by omega
      clear hA bad
      go_enter Tryd.func15, Tryd.ntmps15
      go_wp2
      go_ret
      exact ⟨by rw [e.out]; rfl, Below.refl _ _⟩
    · have q2 : ¬ (64 : Int) < (m : Int) := by omega
      have c0 : w.cell? x = some (.int .i64 (cs.getD 0 0)) := by
        obtain ⟨y, hy, _, hc0⟩ := hA 0 _ (getI (by rw [HM.out]; omega))
        obtain rfl := Option.some.inj hy
        exact hc0
      have c0' : w.cell? (x.add 0) = some (.int .i64 (cs.getD 0 0)) := c0
      have cL : w.cell? (x.add (m - 1)) = some (.int .i64 (cs.getD (m - 1) 0)) := by
        obtain ⟨y, hy, _, hc0⟩ := hA (m - 1) _ (getI (by rw [HM.out]; omega))
        obtain rfl := Option.some.inj hy
        exact hc0
      have HA := hid hA
      have w1 : IntKind.i64.wrap ((m : Int) - 1) = (m : Int) - 1 := by rw [IntKind.wrap_i64]; omega
      have w2 : ((m : Int) - 1).toNat = m - 1 := by omega
      have w3 : (0 : Int) ≤ (m : Int) - 1 := by omega
      have w4 : (m : Int) - 1 < (m : Int) := by omega
      by_cases h3 : cs.getD 0 0 < 1
      · have e := hid (bad.out (by omega))
        clear hA bad HA
        generalize cs.getD 0 0 = z at *
        go_enter Tryd.func15, Tryd.ntmps15
        go_wp2
        go_ret
        exact ⟨by rw [e.out]; rfl, Below.refl _ _⟩
      · by_cases h4 : 1099511627776 < cs.getD (m - 1) 0
        · have e := hid (bad.out (by omega))
          clear hA bad HA
          generalize cs.getD 0 0 = z at *
          generalize cs.getD (m - 1) 0 = y at *
          go_enter Tryd.func15, Tryd.ntmps15
          go_wp2
          go_ret
          exact ⟨by rw [e.out]; rfl, Below.refl _ _⟩
        · have eB : Hid (B = upTo cs (m - 1)) := by
            unfold Hid
            rw [← hB.out]
            unfold mayB
            rw [HM.out, decide_eq_true (by omega), Bool.true_and]
          clear hA bad hB
          obtain ⟨z, hz⟩ : ∃ z, cs.getD 0 0 = z := ⟨_, rfl⟩
          obtain ⟨y, hy⟩ : ∃ y, cs.getD (m - 1) 0 = y := ⟨_, rfl⟩
          rw [hz] at c0 c0' h3
          rw [hy] at cL h4
          clear hz hy
          go_enter Tryd.func15, Tryd.ntmps15
          go_wp2
          clear c0 c0' cL
          go_loopw [3] (fun i w' => ∃ J j : Nat, J ≤ m - 1 ∧ Hid (j = J + 1) ∧ i = .int .i64 (j : Int) ∧ Hid (upTo cs J = true) ∧ Hid (Below w.heap.size w w')) (fun i _ => m - (intOf i).toNat)
          case atStart => exact ⟨0, 1, by omega, rfl, rfl, rfl, Below.refl _ _⟩
          case round =>
            obtain ⟨J, j, hJ, hj, rfl, hup, hbw⟩ := hrel
            by_cases hjm : J < m - 1
            · have b0 : (j : Int) < (m : Int) := by have := hj.out; omega
              have d0 : wr.cell? (x.add J) = some (.int .i64 (cs.getD J 0)) := by
                obtain ⟨y, hy, _, hc0⟩ := (HA.out.below hbw.out (Nat.le_refl _)) J _ (getI (by rw [HM.out]; omega))
                obtain rfl := Option.some.inj hy
                exact hc0
              have d1 : wr.cell? (x.add j) = some (.int .i64 (cs.getD j 0)) := by
                obtain ⟨y, hy, _, hc0⟩ := (HA.out.below hbw.out (Nat.le_refl _)) j _ (getI (by rw [HM.out]; have := hj.out; omega))
                obtain rfl := Option.some.inj hy
                exact hc0
              have v1 : IntKind.i64.wrap ((j : Int) - 1) = (J : Int) := by rw [IntKind.wrap_i64]; have := hj.out; omega
              have v3 : (0 : Int) ≤ (J : Int) := by omega
              have v4 : (J : Int) < (m : Int) := by omega
              have v6 : (0 : Int) ≤ (j : Int) := by omega
              have hcj : Hid (cs.getD (J + 1) 0 = cs.getD j 0) := by unfold Hid; rw [hj.out]
              by_cases hlt : cs.getD J 0 < cs.getD (J + 1) 0
              · have e2 : Hid (upTo cs (J + 1) = true) := by unfold Hid; rw [upTo_next, hup.out, decide_eq_true hlt]; rfl
                have hge : ¬ cs.getD j 0 ≤ cs.getD J 0 := by rw [← hcj.out]; omega
                generalize cs.getD J 0 = p at *
                generalize cs.getD j 0 = q at *
                clear hup hlt hcj
                go_wp2
                go_quiet (fail)
                go_wp2
                exact ⟨⟨J + 1, j + 1, by omega, by unfold Hid; rw [hj.out], by go_num, e2, (by exact ⟨hbw.out.os, hbw.out.tape, hbw.out.output, hbw.out.size, hbw.out.block⟩)⟩, by simp [intOf]; omega⟩
              · have e3 : Hid (B = false) := by unfold Hid; rw [eB.out]; exact upTo_not hjm hlt
                have hge : cs.getD j 0 ≤ cs.getD J 0 := by rw [← hcj.out]; omega
                generalize cs.getD J 0 = p at *
                generalize cs.getD j 0 = q at *
                clear hup hlt hcj
                go_wp2
                go_quiet (fail)
                go_wp2
                go_ret
                exact ⟨by rw [e3.out]; rfl, (by exact ⟨hbw.out.os, hbw.out.tape, hbw.out.output, hbw.out.size, hbw.out.block⟩)⟩
            · have b0 : ¬ (j : Int) < (m : Int) := by have := hj.out; omega
              have e3 : Hid (B = true) := by unfold Hid; rw [eB.out, show m - 1 = J by omega]; exact hup.out
              clear hup
              go_wp2
              go_ret
              exact ⟨by rw [e3.out]; rfl, hbw.out⟩
end Chn
end Go.Proofs.YtappjeepajjioaaDoor

namespace Go.Proofs.YtappjeepajjioaaDoor
open Go.RowKit Go.Shelf
namespace Chn
/-- a list that the document makes -/
structure Rl (w w' : World) (v : Value) (K : List (Nat × Nat)) : Prop where
  own : OwnP w' v K
  ge : ∀ k, v.ownBlock = some k → w.heap.size ≤ k
  bel : Below w.heap.size w w'
theorem Rl.below {w w' w2 : World} {v : Value} {K : List (Nat × Nat)} (h : Rl w w' v K) (hb : Below w'.heap.size w' w2) : Rl w w2 v K := ⟨h.own.below hb, h.ge, h.bel.trans (hb.mono h.bel.size)⟩
theorem Rl.push {w w' w2 : World} {v v' : Value} {K K' : List (Nat × Nat)} (h : Rl w w' v K) (o : OwnP w2 v' K') (g : Grow w' w2 v v') : Rl w w2 v' K' :=
  ⟨o, fun k hk => by
    have := h.bel.size
    rcases Grow.alt' g k hk with e | e
    · exact h.ge k e
    · omega, h.bel.trans (keep_belowC g.keep h.bel.size h.ge)⟩
set_option maxRecDepth 100000 in
set_option maxHeartbeats 2000000 in
theorem rspans_any (hs : List Nat) (H : Hds hs) (m : Nat) (HM : Hid (hs.length = m)) (a : Option Addr) (cap : Nat) (w : World) (hA : AtI w a (ix hs)) :
    Calls Tryd.prog 31 #[.slice a m cap] w fun r w' => ∃ v, r = .returned v ∧ Rl w w' v (told hs) := by
  have l1 : 1 ≤ m := by rw [← HM.out]; exact H.ne
  have l2 : m ≤ 64 := by rw [← HM.out]; exact H.le
  obtain ⟨x, rfl⟩ := hA.pos (by simp [ix]; rw [HM.out]; omega)
  have HA := hid hA
  have HH := hid H
  clear hA H
  go_enter Tryd.func31, Tryd.ntmps31
  go_wp2
  go_loopw [3, 4, 5, 6, 7, 8] (fun v i _ _ _ _ w' => ∃ J j : Nat, J ≤ m - 1 ∧ Hid (j = J + 1) ∧ i = .int .i64 (j : Int) ∧ Hid (Rl w w' v (tol hs J))) (fun _ i _ _ _ _ _ => m - (intOf i).toNat)
  case atStart => exact ⟨0, 1, by omega, rfl, rfl, ⟨OwnM.nil 2 _, (fun k hk => by cases hk), Below.refl _ _⟩⟩
  case round =>
    obtain ⟨J, j, hJ, hj, rfl, hT⟩ := hrel
    by_cases hjm : J < m - 1
    · have b0 : (j : Int) < (m : Int) := by have := hj.out; omega
      have hj1 : J + 1 < hs.length := by rw [HM.out]; omega
      have hj0 : J < hs.length := by omega
      have pr := HH.out.pair hj1
      have i1 := fun w' => rProof8_ok (hs.getD (J + 1) 0) (hs.getD J 0) pr.1 pr.2.1 pr.2.2 w'
      rw [show Tree.prfF (hs.getD (J + 1) 0) 0 (hs.getD (J + 1) 0) (hs.getD J 0) = prf (hs.getD J 0) (hs.getD (J + 1) 0) from rfl] at i1
      have A1 := HA.out.below hT.out.bel (Nat.le_refl _)
      have fact : ∀ w', AtI w' (some x) (ix hs) → w'.cell? (x.add J) = some (.int .i64 (hs.getD J 0 : Int)) ∧ w'.cell? (x.add j) = some (.int .i64 (hs.getD (J + 1) 0 : Int)) := fun w' h => by
        obtain ⟨y, hy, _, h0⟩ := h J _ (ix_at hj0)
        obtain ⟨z, hz, _, h1⟩ := h (J + 1) _ (ix_at hj1)
        obtain rfl := Option.some.inj hy
        obtain rfl := Option.some.inj hz
        rw [hj.out]
        exact ⟨h0, h1⟩
      have x0 := fact _ A1
      have HF := hid fact
      have HAW := hid (fun w' (h : Below wr.heap.size wr w') => A1.below h (Nat.le_refl _))
      have hL : Hid (tol hs (J + 1) = tells (tol hs J) (prf (hs.getD J 0) (hs.getD (J + 1) 0))) := rfl
      have hlo := prf_lo pr.1 (Nat.le_of_lt pr.2.1)
      have hln := prf_len pr.1 (Nat.le_of_lt pr.2.1) pr.2.2
      have hKl := hid (tol_few HH.out (i := J) hj0)
      have p3 := pr.2.2
      unfold Hid at HF
      generalize hs.getD J 0 = A at *
      generalize hs.getD (J + 1) 0 = B at *
      have HF := hid HF
      generalize prf A B = L at *
      have HL := hid hlo
      have v1 : IntKind.i64.wrap ((j : Int) - 1) = (J : Int) := by rw [IntKind.wrap_i64]; have := hj.out; omega
      have v3 : (0 : Int) ≤ (J : Int) := by omega
      have v4 : (J : Int) < (m : Int) := by omega
      have v6 : (0 : Int) ≤ (j : Int) := by omega
      clear fact A1 pr hlo
      go_wp2
      go_region_held3 (fun w' => w'.cell? (x.add J) = some (.int .i64 (A : Int)) ∧ w'.cell? (x.add j) = some (.int .i64 (B : Int))) (first | exact x1 | exact x0) (first | (go_at_call 44; refine (i1 _).mono ?_; rintro r w1 ⟨b1, vL, rfl, OL, hvL⟩; have b1 := drewBelow8 b1; have x1 := HF.out _ (HAW.out _ b1); have T1 := hid (hT.out.below b1); have OF : Hid (∀ k, vL.ownBlock = some k → ¬ u3.ownBlock = some k) := (fun k hk e => by { have h1 : wr.heap.size ≤ k := hvL k hk; have := hT.out.own.lt k e; omega }); have BS1 := hid OL; obtain ⟨la, lc, rfl, _, _⟩ := OL.shape; clear OL hvL b1))
      clear x0 x1 hT HAW HF
      obtain ⟨nl, hnl⟩ : ∃ nl, L.length = nl := ⟨_, rfl⟩
      have HNL := hid hnl
      unfold Hid at OF
      rw [hnl] at hln OF ⊢
      have OF := hid OF
      clear hnl
      go_wp2
      go_loopw [3, 7, 8] (fun v i _ w' => ∃ k : Nat, k ≤ nl ∧ i = .int .i64 (k : Int) ∧ Hid (Rl w w' v (tells (tol hs J) (L.take k))) ∧ Hid (OwnP w' (.slice la nl lc) L) ∧ Hid (∀ q, (Value.slice la nl lc).ownBlock = some q → ¬ v.ownBlock = some q)) (fun _ i _ _ => nl - (intOf i).toNat)
      case atStart => exact ⟨0, by omega, rfl, T1, (by have := BS1.out; unfold Hid; unfold OwnP at this ⊢; rw [HNL.out] at this ⊢; exact this), OF⟩
      case round =>
        clear T1 BS1 OF
        obtain ⟨k, hk, rfl, hT, hOw, hOf⟩ := hrel
        by_cases hkl : k < nl
        · have e0 : (k : Int) < (nl : Int) := by omega
          have e1 : (0 : Int) ≤ (k : Int) := by omega
          have hkL : k < L.length := by rw [HNL.out]; exact hkl
          obtain ⟨⟨sx, sy⟩, hs'⟩ : ∃ s, L[k]? = some s := ⟨_, List.getElem?_eq_getElem hkL⟩
          obtain ⟨g, hg0, hg, c0, c1⟩ := ownP_atC hOw.out hs'
          subst hg0
          have hss := HL.out _ (List.mem_of_getElem? hs')
          have hsx : sx < sy := hss.1
          have hsy : sy ≤ 1099511627776 := by have : sy ≤ B := hss.2; omega
          have nx := hid (tells_next (K := tol hs J) hs')
          have hKn : Hid ((tells (tol hs J) (L.take k)).length ≤ 1000000) := by
            have a1 := tells_len (L.take k) (tol hs J)
            have a2 : (L.take k).length ≤ nl := by rw [List.length_take, HNL.out]; omega
            have := hKl.out
            unfold Hid
            omega
          unfold Hid at hT hKn nx
          generalize tells (tol hs J) (L.take k) = K at *
          obtain ⟨va, vc, hva, _, _⟩ := hT.own.shape
          obtain ⟨kn, hkn⟩ : ∃ kn, K.length = kn := ⟨_, rfl⟩
          have HKN := hid hkn
          rw [hkn] at hva hKn
          subst hva
          have i3 := rFolds13 (show Hid (K.length = kn) from hkn) hKn (show OwnP wr (.slice va kn vc) K from hT.own) hsx hsy
          have hTT := hid hT
          clear hT hss hs' hkn
          cases hc : can K (sx, sy) with
          | true =>
            have nx : Hid (tells (tol hs J) (L.take (k + 1)) = K) := by unfold Hid; rw [nx]; unfold tell; rw [if_pos hc]
            rw [hc] at i3
            clear hc
            go_wp2_with (go_at_call 45; refine i3.mono ?_; rintro r w2 ⟨rfl, b2⟩; have T2 := hid (hTT.out.below b2); have B2 := hid (hOw.out.below b2); clear b2)
            exact ⟨⟨k + 1, by omega, by go_num, (by unfold Hid; rw [nx.out]; exact T2.out), B2, hOf⟩, by simp [intOf]; omega⟩
          | false =>
            have nx : Hid (tells (tol hs J) (L.take (k + 1)) = K ++ [(sx, sy)]) := by unfold Hid; rw [nx]; unfold tell; rw [if_neg (by rw [hc]; simp)]
            rw [hc] at i3
            clear hc
            go_wp2_with (first
              | (go_at_call 45; refine i3.mono ?_; rintro r w2 ⟨rfl, b2⟩; have T2 := hid (hTT.out.below b2); have B2 := hid (hOw.out.below b2); have d0 := (b2.cell (p := ⟨g, k * 2, none⟩) hg).trans c0; have d1 := (b2.cell (p := ⟨g, k * 2 + 1, none⟩) hg).trans c1; obtain ⟨v3, w3, hap, O3, G3⟩ := append_pair w2 (.slice va kn vc) K sx sy T2.out.own (by { have := HKN.out; omega }); have T3 := hid (T2.out.push O3 G3); have B3 := hid (B2.out.keep G3.keep hOf.out); have OF3 : Hid (∀ q, (Value.slice (some ⟨g, 0, none⟩) nl lc).ownBlock = some q → ¬ v3.ownBlock = some q) := (fun q hq e => by { rcases Grow.alt' G3 q e with h | h; exact hOf.out q hq h; have := B2.out.lt q hq; omega }); clear b2 O3 G3)
              | (at_builtin; go_must (refine Lib.wpList_append_run _ rfl _ _ 34 34 rfl _ _ rfl rfl _ _ hap ?_)))
            exact ⟨⟨k + 1, by omega, by go_num, (by unfold Hid; rw [nx.out]; exact T3.out), B3, OF3⟩, by simp [intOf]; omega⟩
        · obtain rfl : k = nl := by omega
          have e0 : ¬ (k : Int) < (k : Int) := by omega
          have T9 : Hid (Rl w wr u3 (tol hs (J + 1))) := by
            have := hT.out
            rw [← HNL.out, List.take_length, ← hL.out] at this
            exact this
          clear hT hOw hOf
          go_wp2
          exact ⟨⟨J + 1, j + 1, by omega, by unfold Hid; rw [hj.out], by go_num, T9⟩, by simp [intOf]; omega⟩
    · have b0 : ¬ (j : Int) < (m : Int) := by have := hj.out; omega
      have e1 : Hid (told hs = tol hs J) := by unfold Hid told; rw [HM.out, show m - 1 = J by omega]
      go_wp2
      go_ret
      exact ⟨_, rfl, by rw [e1.out]; exact hT.out⟩
set_option maxRecDepth 100000 in
set_option maxHeartbeats 2000000 in
theorem rNodes13_any (cs : List Int) (m : Nat) (hm : Hid (cs.length = m)) (ac : Option Addr) (cc : Nat) (w : World) (hA : AtI w ac cs) (lc : m ≤ 9223372036854775807) :
    Calls Tryd.prog 18 #[.slice ac m cc] w (SpP w (ndE cs) (ndL cs)) := by
  have i1 := rHeads_any cs m hm ac cc w lc hA
  cases hb : mayB cs with
  | false =>
    have e1 : ndE cs = 130 := by unfold ndE; rw [hb]; rfl
    have e2 : ndL cs = [] := by unfold ndL; rw [hb]; rfl
    rw [e1, e2]
    rw [hb] at i1
    clear hA hb hm e1 e2
    go_enter Tryd.func18, Tryd.ntmps18
    go_wp2_with (go_at_call 15; refine i1.mono ?_; rintro r w1 ⟨rfl, b1⟩; have B1 := hid b1; clear b1)
    go_ret2
    exact ⟨B1.out, _, rfl, OwnM.nil 2 _, (fun k hk => by cases hk)⟩
  | true =>
    obtain ⟨hs, rfl, HH⟩ := mayB_hds hb
    have e1 : ndE (ix hs) = 0 := by unfold ndE; rw [hb]; rfl
    have e2 : ndL (ix hs) = told hs := by unfold ndL; rw [hb, if_pos rfl, ix_toN]
    have hl : hs.length = m := by rw [← hm.out]; simp [ix]
    have i2 := fun w' (bb : Below w.heap.size w w') => rspans_any hs HH m hl ac cc w' (hA.below bb (Nat.le_refl _))
    rw [e1, e2]
    rw [hb] at i1
    clear hA hb hm e1 e2 hl
    go_enter Tryd.func18, Tryd.ntmps18
    go_wp2_with (first
      | (go_at_call 15; refine i1.mono ?_; rintro r w1 ⟨rfl, b1⟩; have B1 := hid b1; clear b1)
      | (go_at_call 31; refine (i2 _ B1.out).mono ?_; rintro r w2 ⟨v, rfl, rl⟩; have RL := hid rl; have B2 := hid (B1.out.trans (rl.bel.mono B1.out.size)); obtain ⟨va, vn, vc, rfl⟩ := ownM_sl rl.own; clear rl))
    go_ret2
    exact ⟨B2.out, _, rfl, RL.out.own, fun k hk => Nat.le_trans B1.out.size (RL.out.ge k hk)⟩
end Chn
end Go.Proofs.YtappjeepajjioaaDoor

namespace Go.Proofs.YtappjeepajjioaaDoor
open Go.RowKit
/-- where a walk stands -/
abbrev wy (p l : Nat) : Value := .agg #[.int .i64 (p : Int), .int .i64 (l : Int)]
theorem tdiv2 (k : Nat) : ((k : Int).tdiv 2) = ((k / 2 : Nat) : Int) := by rw [Int.tdiv_eq_ediv_of_nonneg (by omega)]; omega
theorem wrap2 (k : Nat) (h : k < 9223372036854775808) : IntKind.i64.wrap ((k / 2 : Nat) : Int) = ((k / 2 : Nat) : Int) := wrap_small _ (by omega) (by omega)
theorem sizeW : (Tryd.prog.info? 99).map (·.size) = some 2 := by kernel_rfl
theorem sizeW' (a b : Value) : (Tryd.prog.info? 99).map (·.size) = some #[a, b].size := sizeW
theorem oneW (a b : Int) : (#[Value.int .i64 a, Value.int .i64 b].all (·.oneCell')) = true := all_oneCell_toArray (cs := [Value.int .i64 a, Value.int .i64 b]) fun v hv => by
  simp only [List.mem_cons, List.not_mem_nil, or_false] at hv
  rcases hv with rfl | rfl <;> rfl
/-- a walk's variable -/
def Wy (w : World) (g p l : Nat) : Prop := w.heap[g]? = some (.cells #[.int .i64 (p : Int), .int .i64 (l : Int)] 99 (0, 0))
theorem Wy.row {w : World} {g p l : Nat} (h : Wy w g p l) : w.heap[g]? = some (.cells #[.int .i64 (p : Int), .int .i64 (l : Int)] 99 (0, 0)) := h
theorem Wy.c0 {w : World} {g p l : Nat} (h : Wy w g p l) : w.cell? ⟨g, 0, none⟩ = some (.int .i64 (p : Int)) := by rw [cell_of_row w g 0 _ _ _ h]; rfl
theorem Wy.c1 {w : World} {g p l : Nat} (h : Wy w g p l) : w.cell? ⟨g, 1, none⟩ = some (.int .i64 (l : Int)) := by rw [cell_of_row w g 1 _ _ _ h]; rfl
theorem Wy.below {w w' : World} {g p l : Nat} (h : Wy w g p l) (hb : Below w.heap.size w w') : Wy w' g p l := (hb.block g (lt_of_heap h)).trans h
theorem Wy.set {w : World} {g p l : Nat} (h : Wy w g p l) (p' l' : Nat) : Wy (w.setRow g #[.int .i64 (p' : Int), .int .i64 (l' : Int)]) g p' l' := setRow_heap _ _ _ _ _ _ h
theorem Wy.setO {w : World} {g p l k : Nat} (h : Wy w g p l) (cs : Array Value) (hk : k ≠ g) : Wy (w.setRow k cs) g p l := (setRow_other w k g cs (Ne.symm hk)).trans h
theorem Wy.new (w : World) (p l : Nat) : Wy (w.alloc (.cells #[.int .i64 (p : Int), .int .i64 (l : Int)] 99)) w.heap.size p l := heap_alloc_new w _
def numAt (w : World) (g i : Nat) : Nat := match w.cell? ⟨g, i, none⟩ with | some (.int _ n) => n.toNat | _ => 0
theorem Wy.n0 {w : World} {g p l : Nat} (h : Wy w g p l) : numAt w g 0 = p := by unfold numAt; rw [h.c0]; exact Int.toNat_natCast _
theorem Wy.n1 {w : World} {g p l : Nat} (h : Wy w g p l) : numAt w g 1 = l := by unfold numAt; rw [h.c1]; exact Int.toNat_natCast _
set_option maxRecDepth 100000 in
set_option maxHeartbeats 2000000 in
theorem halved_any (p l : Nat) (hp : p < 9223372036854775808) (hl : l < 9223372036854775808) (w : World) :
    Calls Tryd.prog 78 #[wy p l] w fun e w' => e = .returned (wy (p / 2) (l / 2)) ∧ Below w.heap.size w w' := by
  have e1 := tdiv2 p
  have e2 := tdiv2 l
  have e3 := wrap2 p hp
  have e4 := wrap2 l hl
  go_enter Tryd.func78, Tryd.ntmps78
  go_wp2
  refine bodyPost_ret (v := wy (p / 2) (l / 2)) (results_cell_row rfl _ _ (w.heap.size + 1) 99 _ (0, 0) _ rfl (heap_alloc_at _ _ _ (size_alloc w _)) Tryd.underlying99 rfl sizeW) rfl ⟨rfl, ?_⟩
  exact ((Below.refl _ _).alloc (Nat.le_refl _) _).alloc (by rw [size_alloc]; omega) _
set_option maxRecDepth 100000 in
set_option maxHeartbeats 2000000 in
theorem fromLeft_any (p l : Nat) (hp : p < 9223372036854775808) (hl : l < 9223372036854775808) (w : World) :
    Calls Tryd.prog 75 #[wy p l] w fun e w' => e = .returned (.bool (p % 2 == 1 || p == l)) ∧ Below w.heap.size w w' := by
  have e1 : (p : Int).tmod 2 = ((p % 2 : Nat) : Int) := by rw [Int.tmod_eq_emod_of_nonneg (by omega)]; omega
  have e2 : IntKind.i64.wrap ((p % 2 : Nat) : Int) = ((p % 2 : Nat) : Int) := wrap_small _ (by omega) (by omega)
  by_cases ho : p % 2 = 1
  · have b0 : (((p % 2 : Nat) : Int) == 1) = true := by rw [ho]; rfl
    have e := hid (show (p % 2 == 1 || p == l) = true by simp [ho])
    go_enter Tryd.func75, Tryd.ntmps75
    go_wp2
    go_ret
    exact ⟨by rw [e.out]; rfl, (Below.refl _ _).alloc (Nat.le_refl _) _⟩
  · have b0 : (((p % 2 : Nat) : Int) == 1) = false := by simp; omega
    have b9 : ((p : Int) % 2 == 1) = false := by simp; omega
    have b8 : ¬ (p : Int) % 2 = 1 := by omega
    by_cases h : p = l
    · subst h
      have e := hid (show (p % 2 == 1 || p == p) = true by simp)
      go_enter Tryd.func75, Tryd.ntmps75
      go_wp2
      go_ret
      exact ⟨by rw [e.out]; rfl, (Below.refl _ _).alloc (Nat.le_refl _) _⟩
    · have e := hid (show (p % 2 == 1 || p == l) = false by simp [ho, h])
      have b1 : ((p : Int) == (l : Int)) = false := by simp; omega
      go_enter Tryd.func75, Tryd.ntmps75
      go_wp2
      go_ret
      exact ⟨by rw [e.out]; rfl, (Below.refl _ _).alloc (Nat.le_refl _) _⟩
set_option maxRecDepth 100000 in
set_option maxHeartbeats 2000000 in
theorem above_any (p l : Nat) (hp : p ≤ l) (h0 : l ≠ 0) (hl : l < 9223372036854775808) (w : World) :
    Calls Tryd.prog 77 #[wy p l] w fun e w' => ∃ p' l', e = .returned (wy p' l') ∧ Below w.heap.size w w' ∧ p' ≤ l' ∧ l' < l ∧ Hid (Tree.U p l = (p % 2 == 1 || p == l) :: Tree.U p' l') := by
  by_cases h : p = l
  · subst h
    have c0 := Wy.new w p p
    go_enter Tryd.func77, Tryd.ntmps77
    go_wp2
    go_loopw [] (fun w' => ∃ x : Nat, x ≠ 0 ∧ x ≤ p ∧ Hid (Tree.U p p = Tree.U x x) ∧ Hid (Wy w' w.heap.size x x) ∧ Hid (Wy w' (w.heap.size + 1) 0 0) ∧ Hid (Below w.heap.size w w')) (fun w' => numAt w' w.heap.size 0)
    case atStart =>
      have s1 := size_alloc w (.cells #[Value.int .i64 (p : Int), Value.int .i64 (p : Int)] 99)
      exact ⟨p, h0, Nat.le_refl _, rfl, (Below.heap_alloc _ _ _ (by omega)).trans (Wy.new w p p), heap_alloc_at _ _ _ s1, ((Below.refl _ _).alloc (Nat.le_refl _) _).alloc (by omega) _⟩
    case round =>
      obtain ⟨x, hx0, hxp, hU, hW, hR, hB⟩ := hrel
      have c0 := hW.out.c0
      have c1 := hW.out.c1
      have lt1 := lt_of_heap hW.out
      by_cases ho : x % 2 = 0
      · have b0 : (x : Int) % 2 = 0 := by omega
        have b1 : ((x : Int) % 2 == 0) = true := by simp; omega
        have b2 : ((x : Int) != 0) = true := by simp; omega
        have b3 : ((x : Int) == 0) = false := by simp; omega
        have hc := halved_any x x (by omega) (by omega) wr
        go_wp2_with (first
          | ((with_reducible show wpList _ _ _ (Oper.mk _ (Op.load 99 _) _ _ _ _ :: _) _ _); go_must (refine wpList_load_row rfl 99 _ rfl w.heap.size rfl 99 _ (0, 0) _ hW.out.row Tryd.underlying99 rfl (sizeW' _ _) ?_))
          | (go_at_call 78; refine hc.mono ?_; rintro e w1 ⟨rfl, hw1⟩)
          | ((with_reducible show wpList _ _ _ (Oper.mk _ (Op.store 99 _ _) _ _ _ _ :: _) _ _); go_must (refine wpList_store_row rfl 99 _ _ rfl w.heap.size _ rfl rfl 99 _ (hW.out.below hw1).row (sizeW' _ _) rfl (oneW _ _) ?_)))
        have hW1 := (hW.out.below hw1).set (x / 2) (x / 2)
        have hm : numAt (w1.setRow w.heap.size #[.int .i64 ((x / 2 : Nat) : Int), .int .i64 ((x / 2 : Nat) : Int)]) w.heap.size 0 < numAt wr w.heap.size 0 := by rw [hW1.n0, hW.out.n0]; omega
        refine ⟨?_, hm⟩
        repeat apply Exists.intro
        exact ⟨⟨x / 2, by omega, by omega, hid (hU.out.trans (Tree.U_skip hx0 ho)), hid hW1, hid ((hR.out.below hw1).setO _ (by omega)), hid (Below.setRow (hB.out.trans (hw1.mono hB.out.size)) (Nat.le_refl _) _)⟩, rfl⟩
      · have b0 : ¬ (x : Int) % 2 = 0 := by omega
        have b1 : ((x : Int) % 2 == 0) = false := by simp; omega
        have hc := halved_any x x (by omega) (by omega) wr
        go_wp2_with (first
          | ((with_reducible show wpList _ _ _ (Oper.mk _ (Op.load 99 _) _ _ _ _ :: _) _ _); go_must (refine wpList_load_row rfl 99 _ rfl w.heap.size rfl 99 _ (0, 0) _ hW.out.row Tryd.underlying99 rfl (sizeW' _ _) ?_))
          | (go_at_call 78; refine hc.mono ?_; rintro e w1 ⟨rfl, hw1⟩)
          | ((with_reducible show wpList _ _ _ (Oper.mk _ (Op.store 99 _ _) _ _ _ _ :: _) _ _); go_must (refine wpList_store_row rfl 99 _ _ rfl (w.heap.size + 1) _ rfl rfl 99 _ (hR.out.below hw1).row (sizeW' _ _) rfl (oneW _ _) ?_)))
        refine bodyPost_ret (v := wy (x / 2) (x / 2)) (results_cell_row rfl _ _ (w.heap.size + 1) 99 _ (0, 0) _ rfl ((hR.out.below hw1).set (x / 2) (x / 2)).row Tryd.underlying99 rfl sizeW) rfl ⟨x / 2, x / 2, rfl, ?_, Nat.le_refl _, by omega, ?_⟩
        · exact Below.setRow (hB.out.trans (hw1.mono hB.out.size)) (by omega) _
        · refine hid (hU.out.trans ?_)
          rw [Tree.U_step hx0 (by omega), show (x % 2 == 1) = true by simp; omega]
          simp
  · have b0 : ((p : Int) == (l : Int)) = false := by simp; omega
    have e := hid (show Tree.U p l = (p % 2 == 1 || p == l) :: Tree.U (p / 2) (l / 2) by rw [Tree.U_step h0 (by omega), show (p == l) = false by simpa using h, Bool.or_false])
    have hc := halved_any p l (by omega) hl
    have s1 := size_alloc w (.cells #[Value.int .i64 (p : Int), Value.int .i64 (l : Int)] 99)
    have hB : Hid (Below w.heap.size w ((w.alloc (.cells #[Value.int .i64 (p : Int), Value.int .i64 (l : Int)] 99)).alloc (.cells #[Value.int .i64 0, Value.int .i64 0] 99))) := ((Below.refl _ _).alloc (Nat.le_refl _) _).alloc (by omega) _
    have hR : Hid (Wy ((w.alloc (.cells #[Value.int .i64 (p : Int), Value.int .i64 (l : Int)] 99)).alloc (.cells #[Value.int .i64 0, Value.int .i64 0] 99)) (w.heap.size + 1) 0 0) := heap_alloc_at _ _ _ s1
    clear s1
    go_enter Tryd.func77, Tryd.ntmps77
    go_wp2_with (first
      | (go_at_call 78; refine (hc _).mono ?_; rintro e w1 ⟨rfl, hw1⟩)
      | ((with_reducible show wpList _ _ _ (Oper.mk _ (Op.store 99 _ _) _ _ _ _ :: _) _ _); go_must (refine wpList_store_row rfl 99 _ _ rfl (w.heap.size + 1) _ rfl rfl 99 _ (hR.out.below hw1).row (sizeW' _ _) rfl (oneW _ _) ?_)))
    refine bodyPost_ret (v := wy (p / 2) (l / 2)) (results_cell_row rfl _ _ (w.heap.size + 1) 99 _ (0, 0) _ rfl ((hR.out.below hw1).set (p / 2) (l / 2)).row Tryd.underlying99 rfl sizeW) rfl ⟨p / 2, l / 2, rfl, ?_, by omega, by omega, e⟩
    exact Below.setRow (hB.out.trans (hw1.mono hB.out.size)) (by omega) _
end Go.Proofs.YtappjeepajjioaaDoor

namespace Go.Proofs.YtappjeepajjioaaDoor
open Go.RowKit
set_option maxRecDepth 100000 in
set_option maxHeartbeats 2000000 in
theorem steps_any (p l : Nat) (hp : p ≤ l) (hl : l < 9223372036854775807) (w : World) :
    Calls Tryd.prog 88 #[wy p l] w fun e w' => e = .returned (.int .i64 ((Tree.U p l).length : Nat)) ∧ Below w.heap.size w w' := by
  obtain ⟨T, hT⟩ : ∃ T, Hid ((Tree.U p l).length = T) := ⟨_, rfl⟩
  go_enter Tryd.func88, Tryd.ntmps88
  go_wp2
  go_loopw [3] (fun c w' => ∃ x y C : Nat, c = .int .i64 (C : Int) ∧ x ≤ y ∧ C + y ≤ l ∧ Hid (C + (Tree.U x y).length = T) ∧ Hid (Wy w' w.heap.size x y) ∧ Hid (Below w.heap.size w w')) (fun _ w' => numAt w' w.heap.size 1)
  case atStart => exact ⟨p, l, 0, rfl, hp, by omega, by unfold Hid; rw [Nat.zero_add]; exact hT.out, Wy.new w p l, (Below.refl _ _).alloc (Nat.le_refl _) _⟩
  case round =>
    obtain ⟨x, y, C, rfl, hxy, hC, hU, hW, hB⟩ := hrel
    have c0 := hW.out.c0
    have c1 := hW.out.c1
    by_cases h0 : y = 0
    · subst h0
      have e := hid (show T = C by have := hU.out; rw [Tree.U_zero] at this; simpa using this.symm)
      go_wp2
      go_ret
      exact ⟨by rw [hT.out, e.out]; rfl, hB.out⟩
    · have b0 : ((y : Int) != 0) = true := by simp; omega
      have b1 : ((y : Int) == 0) = false := by simp; omega
      have hc := above_any x y hxy h0 (by omega) wr
      go_wp2_with (first
        | ((with_reducible show wpList _ _ _ (Oper.mk _ (Op.load 99 _) _ _ _ _ :: _) _ _); go_must (refine wpList_load_row rfl 99 _ rfl w.heap.size rfl 99 _ (0, 0) _ hW.out.row Tryd.underlying99 rfl (sizeW' _ _) ?_))
        | (go_at_call 77; refine hc.mono ?_; rintro e w1 ⟨x', y', rfl, hw1, hx', hy', hU'⟩)
        | ((with_reducible show wpList _ _ _ (Oper.mk _ (Op.store 99 _ _) _ _ _ _ :: _) _ _); go_must (refine wpList_store_row rfl 99 _ _ rfl w.heap.size _ rfl rfl 99 _ (hW.out.below hw1).row (sizeW' _ _) rfl (oneW _ _) ?_)))
      have hW1 := (hW.out.below hw1).set x' y'
      have hm : numAt (w1.setRow w.heap.size #[.int .i64 (x' : Int), .int .i64 (y' : Int)]) w.heap.size 1 < numAt wr w.heap.size 1 := by rw [hW1.n1, hW.out.n1]; exact hy'
      refine ⟨?_, hm⟩
      have fin : ∃ x y C' : Nat, Value.int .i64 ((C : Int) + 1) = .int .i64 (C' : Int) ∧ x ≤ y ∧ C' + y ≤ l ∧ Hid (C' + (Tree.U x y).length = T) ∧ Hid (Wy (w1.setRow w.heap.size #[.int .i64 (x' : Int), .int .i64 (y' : Int)]) w.heap.size x y) ∧ Hid (Below w.heap.size w (w1.setRow w.heap.size #[.int .i64 (x' : Int), .int .i64 (y' : Int)])) :=
        ⟨x', y', C + 1, by go_num, hx', by omega, by have := hU.out; rw [hU'.out] at this; unfold Hid; simp at this; omega, hid hW1, hid (Below.setRow (hB.out.trans (hw1.mono hB.out.size)) (Nat.le_refl _) _)⟩
      first
        | exact fin
        | (repeat apply Exists.intro
           exact ⟨fin, rfl⟩)
set_option maxRecDepth 100000 in
set_option maxHeartbeats 2000000 in
theorem proofWay_any (m n : Nat) (hm : 1 ≤ m) (hn : 1 ≤ n) (h1 : m < 9223372036854775807) (h2 : n < 9223372036854775807) (w : World) :
    Calls Tryd.prog 55 #[.int .i64 m, .int .i64 n] w fun e w' => e = .returned (wy (Tree.St (m - 1) (n - 1)).1 (Tree.St (m - 1) (n - 1)).2) ∧ Below w.heap.size w w' := by
  have e1 : ((n : Int) - 1) = ((n - 1 : Nat) : Int) := by omega
  have e2 : ((m : Int) - 1) = ((m - 1 : Nat) : Int) := by omega
  obtain ⟨P, L, hT⟩ : ∃ P L, Hid (Tree.St (m - 1) (n - 1) = (P, L)) := ⟨_, _, rfl⟩
  go_enter Tryd.func55, Tryd.ntmps55
  go_wp2
  go_loopw [] (fun w' => ∃ x y : Nat, x < 9223372036854775807 ∧ y < 9223372036854775807 ∧ Hid (Tree.St x y = (P, L)) ∧ Hid (Wy w' (w.heap.size + 1) x y) ∧ Hid (Wy w' w.heap.size 0 0) ∧ Hid (Below w.heap.size w w')) (fun w' => numAt w' (w.heap.size + 1) 0)
  case atStart =>
    have s1 := size_alloc w (.cells #[Value.int .i64 0, Value.int .i64 0] 99)
    refine ⟨m - 1, n - 1, by omega, by omega, hT, ?_, (Below.heap_alloc _ _ _ (by omega)).trans (heap_alloc_new w _), ((Below.refl _ _).alloc (Nat.le_refl _) _).alloc (by omega) _⟩
    show _ = some (Obj.cells #[.int .i64 ((m - 1 : Nat) : Int), .int .i64 ((n - 1 : Nat) : Int)] _ _)
    rw [← e1, ← e2]
    exact heap_alloc_at _ _ _ s1
  case round =>
    obtain ⟨x, y, hx, hy, hU, hW, hR, hB⟩ := hrel
    have c0 := hW.out.c0
    have c1 := hW.out.c1
    by_cases ho : x % 2 = 1
    · have b0 : (x : Int) % 2 = 1 := by omega
      have b1 : ((x : Int) % 2 == 1) = true := by simp; omega
      have hc := halved_any x y (by omega) (by omega) wr
      go_wp2_with (first
        | ((with_reducible show wpList _ _ _ (Oper.mk _ (Op.load 99 _) _ _ _ _ :: _) _ _); go_must (refine wpList_load_row rfl 99 _ rfl (w.heap.size + 1) rfl 99 _ (0, 0) _ hW.out.row Tryd.underlying99 rfl (sizeW' _ _) ?_))
        | (go_at_call 78; refine hc.mono ?_; rintro e w1 ⟨rfl, hw1⟩)
        | ((with_reducible show wpList _ _ _ (Oper.mk _ (Op.store 99 _ _) _ _ _ _ :: _) _ _); go_must (refine wpList_store_row rfl 99 _ _ rfl (w.heap.size + 1) _ rfl rfl 99 _ (hW.out.below hw1).row (sizeW' _ _) rfl (oneW _ _) ?_)))
      have hW1 := (hW.out.below hw1).set (x / 2) (y / 2)
      have hm : numAt (w1.setRow (w.heap.size + 1) #[.int .i64 ((x / 2 : Nat) : Int), .int .i64 ((y / 2 : Nat) : Int)]) (w.heap.size + 1) 0 < numAt wr (w.heap.size + 1) 0 := by rw [hW1.n0, hW.out.n0]; omega
      refine ⟨?_, hm⟩
      repeat apply Exists.intro
      exact ⟨⟨x / 2, y / 2, by omega, by omega, hid ((Tree.St_odd y ho).symm.trans hU.out), hid hW1, hid ((hR.out.below hw1).setO _ (by omega)), hid (Below.setRow (hB.out.trans (hw1.mono hB.out.size)) (by omega) _)⟩, rfl⟩
    · have b0 : ¬ (x : Int) % 2 = 1 := by omega
      have b1 : ((x : Int) % 2 == 1) = false := by simp; omega
      have e := hid ((Tree.St_even y ho).symm.trans hU.out)
      go_wp2_with (first
        | ((with_reducible show wpList _ _ _ (Oper.mk _ (Op.load 99 _) _ _ _ _ :: _) _ _); go_must (refine wpList_load_row rfl 99 _ rfl (w.heap.size + 1) rfl 99 _ (0, 0) _ hW.out.row Tryd.underlying99 rfl (sizeW' _ _) ?_))
        | ((with_reducible show wpList _ _ _ (Oper.mk _ (Op.store 99 _ _) _ _ _ _ :: _) _ _); go_must (refine wpList_store_row rfl 99 _ _ rfl w.heap.size _ rfl rfl 99 _ hR.out.row (sizeW' _ _) rfl (oneW _ _) ?_)))
      refine bodyPost_ret (v := wy x y) (results_cell_row rfl _ _ w.heap.size 99 _ (0, 0) _ rfl (hR.out.set x y).row Tryd.underlying99 rfl (sizeW' _ _)) rfl ⟨?_, ?_⟩
      · rw [hT.out, ← e.out]
      · exact Below.setRow hB.out (Nat.le_refl _) _
end Go.Proofs.YtappjeepajjioaaDoor
