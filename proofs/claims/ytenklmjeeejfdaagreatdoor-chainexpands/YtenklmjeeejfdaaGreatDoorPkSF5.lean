import Derived.Test.YtenklmjeeejfdaaGreatDoorPkSQ1
import Derived.Test.YtenklmjeeejfdaaGreatDoorPkCP4
import Derived.Test.YtenklmjeeejfdaaGreatDoorPkCP9
namespace Go.Proofs.YtenklmjeeejfdaaGreatDoor
open Go.RowKit Go.Shelf
theorem ksp_prd : ∀ (K : List (Int × Int)) (H : List ByteArray), K.length = H.length → ksp (prd K H) = K
  | [], [], _ => rfl
  | k :: K, h :: H, e => by
    have ih := ksp_prd K H (by simpa using e)
    unfold ksp at ih ⊢
    rw [prd, List.map_cons, ih]
  | [], _ :: _, e => by simp at e
  | _ :: _, [], e => by simp at e
theorem prd_hash {K : List (Int × Int)} {H : List (List UInt8)} (hl : K.length = H.length) (i : Nat) (q : Sub) (h : (prd K (bas H))[i]? = some q) : ∃ x, H[i]? = some x ∧ q.2 = ⟨x.toArray⟩ := by
  have hb : (bas H).length = H.length := by simp [bas]
  have hi := (List.getElem?_eq_some_iff.1 h).1
  rw [prd_len _ _ (by rw [hb]; exact hl)] at hi
  have hiH : i < H.length := by omega
  have e1 : (bas H)[i]? = some ⟨H[i].toArray⟩ := by unfold bas; rw [List.getElem?_map, List.getElem?_eq_getElem hiH]; rfl
  have := prd_get (List.getElem?_eq_getElem hi) e1
  rw [this] at h
  obtain rfl := Option.some.inj h
  exact ⟨_, List.getElem?_eq_getElem hiH, rfl⟩
theorem hs_no {H : List (List UInt8)} {k : Nat} (hk : k < H.length) (h : H[k].length ≠ 32) : hsB8 H = false := by
  cases hc : hsB8 H with
  | false => rfl
  | true =>
    unfold hsB8 at hc
    rw [List.all_eq_true] at hc
    have := hc H[k] (List.getElem_mem hk)
    simp at this
    exact absurd this h
theorem hs_yes {H : List (List UInt8)} (h : ∀ j, j < H.length → ∀ x, H[j]? = some x → x.length = 32) : hsB8 H = true := by
  unfold hsB8
  rw [List.all_eq_true]
  intro x hx
  obtain ⟨j, hj⟩ := List.getElem?_of_mem hx
  simp [h j (List.getElem?_eq_some_iff.1 hj).1 x hj]
set_option maxRecDepth 100000 in
set_option maxHeartbeats 1000000 in
theorem rFold8_any (n : Int) (K : List (Int × Int)) (H : List (List UInt8)) (b e : Int) (ak ah : Option Addr) (ck ch : Nat) (w : World) (hkl : K.length ≤ 9223372036854775800) (hhl : H.length ≤ 9223372036854775800) (hK : AtQ w ak K) (hH : At w ah H) :
    Calls Tryz.prog 50 #[.int .i64 n, .slice ak K.length ck, .slice ah H.length ch, sg b e] w fun r w' => r = .returned (.tuple #[.string (foldA n K H b e).1, .int .i64 (foldA n K H b e).2]) ∧ Below w.heap.size w w' := by
  have S0 := SpI.new w b e
  have B0 := hid ((Below.refl w.heap.size w).alloc (Nat.le_refl _) (.cells #[.int .i64 b, .int .i64 e] 56))
  have AK := hid (fun w' (h : Below w.heap.size w w') => hK.below h (Nat.le_refl _))
  have AH := hid (fun w' (h : Below w.heap.size w w') => hH.below h (Nat.le_refl _))
  obtain ⟨mk, hmk⟩ : ∃ mk, K.length = mk := ⟨_, rfl⟩
  obtain ⟨mh, hmh⟩ : ∃ mh, H.length = mh := ⟨_, rfl⟩
  rw [hmk] at hkl ⊢
  rw [hmh] at hhl ⊢
  unfold sg
  by_cases h1 : 1 ≤ n ∧ n ≤ 1099511627776
  · have a1 : ¬ n < 1 := by omega
    have a2 : ¬ 1099511627776 < n := by omega
    by_cases h2 : K.length = H.length ∧ K.length ≤ 4096
    · have hml : mk = mh := by omega
      have a3 : ¬ 4096 < (mk : Int) := by omega
      have z0 : ((mh : Int) == (mh : Int)) = true := by simp
      have HMH := hid hmh
      have HMK := hid hmk
      subst hml
      generalize hwA : w.alloc (.cells #[.int .i64 b, .int .i64 e] 56) = wA at *
      have HS := hid S0
      obtain ⟨A, hA⟩ : ∃ A, foldA n K H b e = A := ⟨_, rfl⟩
      have HA := hid hA
      rw [hA]
      clear hK hH S0 hmk hmh hA
      go_enter Tryz.func50, Tryz.ntmps50
      go_wp2
      go_loopw [10] (fun i w' => ∃ k : Nat, k ≤ mk ∧ i = .int .i64 (k : Int) ∧ Hid (∀ j, j < k → ∀ x, H[j]? = some x → x.length = 32) ∧ w' = wA) (fun i _ => mk - (intOf i).toNat)
      case atStart => exact ⟨0, Nat.zero_le _, rfl, hid (fun j hj => by omega), rfl⟩
      case round =>
        obtain ⟨k, hk, rfl, hO, hw⟩ := hrel
        rw [hw]
        clear hw
        by_cases hkn : k < mk
        · have b0 : (k : Int) < (mk : Int) := by omega
          have b1 : (0 : Int) ≤ (k : Int) := by omega
          have hkH : k < H.length := by rw [HMH.out]; exact hkn
          obtain ⟨y, hy, _, cx⟩ := (AH.out _ B0.out) k H[k] (List.getElem?_eq_getElem hkH)
          subst hy
          have hsz := sv_size H[k]
          by_cases hx : H[k].length = 32
          · have c0 : (((ByteArray.mk H[k].toArray).size : Int) != 32) = false := by rw [hsz, hx]; rfl
            have hO2 : Hid (∀ j, j < k + 1 → ∀ x, H[j]? = some x → x.length = 32) := fun j hj x hjx => by
              by_cases hjk : j < k
              · exact hO.out j hjk x hjx
              · obtain rfl : j = k := by omega
                rw [List.getElem?_eq_getElem hkH] at hjx
                obtain rfl := Option.some.inj hjx
                exact hx
            rw [show sv H[k] = Value.string ⟨H[k].toArray⟩ from rfl] at cx
            generalize (⟨H[k].toArray⟩ : ByteArray) = xb at *
            clear hsz hx
            go_wp2
            exact ⟨⟨k + 1, by omega, by go_num, hO2, trivial⟩, by simp [intOf]; omega⟩
          · have c0 : (((ByteArray.mk H[k].toArray).size : Int) != 32) = true := by rw [hsz]; simp; omega
            have hres : A = (⟨#[]⟩, 1) := by rw [← HA.out]; unfold foldA; rw [if_pos h1, if_pos h2, hs_no hkH hx, if_neg (by simp)]
            rw [show sv H[k] = Value.string ⟨H[k].toArray⟩ from rfl] at cx
            generalize (⟨H[k].toArray⟩ : ByteArray) = xb at *
            subst hres
            clear hsz hx HA
            go_wp2
            go_ret2
            exact ⟨rfl, B0.out⟩
        · obtain rfl : k = mk := by omega
          have b0 : ¬ (k : Int) < (k : Int) := by omega
          have hall : hsB8 H = true := hs_yes (fun j hj x hx => hO.out j (by rw [← HMH.out]; exact hj) x hx)
          have i1 := rInside8_any n b e wA
          have s0 := HS.out.c0
          have s1 := HS.out.c1
          cases hI : insB n b e with
          | false =>
            rw [hI] at i1
            unfold sg at i1
            have hres : A = (⟨#[]⟩, 80) := by rw [← HA.out]; unfold foldA; rw [if_pos h1, if_pos h2, if_pos hall, hI, if_neg (by simp)]
            subst hres
            clear hall hI HA hO
            go_wp2_with (go_at_call 75; refine i1.mono ?_; rintro r w1 ⟨rfl, b1⟩; have B1 := hid (B0.out.trans (b1.mono B0.out.size)); clear b1)
            go_ret2
            exact ⟨rfl, B1.out⟩
          | true =>
            rw [hI] at i1
            have hin : 0 ≤ b ∧ b < e ∧ e ≤ n := by
              by_cases hc : 1 ≤ n ∧ n ≤ 1099511627776 ∧ 0 ≤ b ∧ b < e ∧ e ≤ n
              · exact ⟨hc.2.2.1, hc.2.2.2.1, hc.2.2.2.2⟩
              · rw [insB_no hc] at hI; cases hI
            obtain ⟨B, rfl⟩ : ∃ B : Nat, b = (B : Int) := ⟨b.toNat, by omega⟩
            obtain ⟨E, rfl⟩ : ∃ E : Nat, e = (E : Int) := ⟨e.toNat, by omega⟩
            obtain ⟨N, hN⟩ : ∃ N, E - B = N := ⟨_, rfl⟩
            obtain rfl : E = B + N := by omega
            have hbl : K.length = (bas H).length := by unfold bas; rw [List.length_map]; exact h2.1
            have eK := ksp_prd K (bas H) hbl
            have iF := fun w' (h : Below w.heap.size w w') => rFolds8_any (K := prd K (bas H)) (a := ak) (c := ck) (by rw [eK, HMK.out]; exact hkl) N B N w' (Nat.le_refl _) (by omega) (by omega) (by rw [eK]; exact AK.out _ h)
            rw [eK, HMK.out] at iF
            have fs := foS_fd N B N (prd K (bas H)) (Nat.le_refl _) (by omega)
            cases hB : fdB N B N (prd K (bas H)) with
            | false =>
              rw [hB] at iF fs
              have hres : A = (⟨#[]⟩, 82) := by
                rw [← HA.out]; unfold foldA
                rw [if_pos h1, if_pos h2, if_pos hall, hI, if_pos rfl, Int.toNat_natCast, Int.toNat_natCast, Nat.add_sub_cancel_left, fs, if_neg (by simp)]
              subst hres
              unfold sg at i1 iF
              clear hall hI HA hO hB fs eK
              go_wp2_with (go_at_call 75; refine i1.mono ?_; rintro r w1 ⟨rfl, b1⟩; have B1 := hid (B0.out.trans (b1.mono B0.out.size)); have S1 := HS.out.below b1; have t0 := S1.c0; have t1 := S1.c1; clear b1)
              go_wp2_with (go_at_call 49; fail)
              refine (iF _ B1.out).mono ?_
              rintro r w2 ⟨rfl, b2⟩
              have B2 := hid (B1.out.trans (b2.mono B1.out.size))
              clear b2 S1
              go_wp2
              go_ret2
              exact ⟨rfl, B2.out⟩
            | true =>
              have iH := fun w' (h : Below w.heap.size w w') => rfolded8_any (K := prd K (bas H)) (H := H) (a := ak) (ah := ah) (c := ck) (ch := ch) (by rw [eK, HMK.out]; exact hkl) (fun i q hq => prd_hash h2.1 i q hq) N B N w' (Nat.le_refl _) (by omega) (by omega) hB (by rw [eK]; exact AK.out _ h) (AH.out _ h)
              rw [eK, HMK.out, HMH.out] at iH
              rw [hB] at iF fs
              have hres : A = (fdH N B N (prd K (bas H)), 0) := by
                rw [← HA.out]; unfold foldA
                rw [if_pos h1, if_pos h2, if_pos hall, hI, if_pos rfl, Int.toNat_natCast, Int.toNat_natCast, Nat.add_sub_cancel_left, fs, if_pos rfl]
              obtain ⟨D, hD⟩ : ∃ D, fdH N B N (prd K (bas H)) = D := ⟨_, rfl⟩
              rw [hD] at hres iH
              subst hres
              unfold sg at i1 iF iH
              clear hall hI HA hO hB fs eK hD
              go_wp2_with (go_at_call 75; refine i1.mono ?_; rintro r w1 ⟨rfl, b1⟩; have B1 := hid (B0.out.trans (b1.mono B0.out.size)); have S1 := HS.out.below b1; have t0 := S1.c0; have t1 := S1.c1; clear b1)
              go_wp2_with (go_at_call 49; fail)
              refine (iF _ B1.out).mono ?_
              rintro r w2 ⟨rfl, b2⟩
              have B2 := hid (B1.out.trans (b2.mono B1.out.size))
              have S2 := S1.below b2
              have u0 := S2.c0
              have u1 := S2.c1
              clear b2 S1 t0 t1
              go_wp2_with (go_at_call 76; fail)
              refine (iH _ B2.out).mono ?_
              rintro r w3 ⟨rfl, b3⟩
              go_wp2
              go_ret2
              exact ⟨rfl, B2.out.trans (b3.mono B2.out.size)⟩
    · have hres : foldA n K H b e = (⟨#[]⟩, 83) := by unfold foldA; rw [if_pos h1, if_neg h2]
      rw [hres]
      clear hK hH AK AH S0 hres
      by_cases h3 : mk = mh
      · subst h3
        have a3 : 4096 < (mk : Int) := by omega
        have z0 : ((mk : Int) == (mk : Int)) = true := by simp
        go_enter Tryz.func50, Tryz.ntmps50
        go_wp2
        go_ret2
        exact ⟨rfl, B0.out⟩
      · have z0 : ((mk : Int) == (mh : Int)) = false := by simp; omega
        have z1 : ¬ (mk : Int) = (mh : Int) := by omega
        go_enter Tryz.func50, Tryz.ntmps50
        go_wp2
        go_ret2
        exact ⟨rfl, B0.out⟩
  · have hres : foldA n K H b e = (⟨#[]⟩, 81) := by unfold foldA; rw [if_neg h1]
    rw [hres]
    clear hK hH AK AH S0 hres
    by_cases h3 : n < 1
    · go_enter Tryz.func50, Tryz.ntmps50
      go_wp2
      go_ret2
      exact ⟨rfl, B0.out⟩
    · have h4 : 1099511627776 < n := by omega
      go_enter Tryz.func50, Tryz.ntmps50
      go_wp2
      go_ret2
      exact ⟨rfl, B0.out⟩
end Go.Proofs.YtenklmjeeejfdaaGreatDoor

namespace Go.Proofs.YtenklmjeeejfdaaGreatDoor
open Go.RowKit Go.Shelf
def slLen : Value → Nat
  | .slice _ n _ => n
  | _ => 0
theorem OwnM.slLen {m : Nat} {w : World} {v : Value} {n : Nat} {cs : List Value} (h : OwnM m w v n cs) : slLen v = n := by
  obtain ⟨a, c, e, _, _⟩ := h.shape
  rw [e]; rfl
structure Dn (w w' : World) (v : Value) (b e : Nat) (l : List (Nat × Nat)) : Prop where
  sp : SpI w' w.heap.size b e
  ow : OwnP w' v l
  nw : ∀ k, v.ownBlock = some k → w.heap.size < k
  bel : Below w.heap.size w w'
theorem Dn.below {w w' w'' : World} {v : Value} {b e : Nat} {l : List (Nat × Nat)} (h : Dn w w' v b e l) (hb : Below w'.heap.size w' w'') : Dn w w'' v b e l :=
  ⟨h.sp.below hb, h.ow.below hb, h.nw, h.bel.trans (hb.mono h.bel.size)⟩
theorem Dn.grow {w w' w'' : World} {v v' : Value} {b e : Nat} {l l' : List (Nat × Nat)} (h : Dn w w' v b e l) (hg : Grow w' w'' v v') (ho : OwnP w'' v' l') : Dn w w'' v' b e l' :=
  ⟨(hg.old _ (lt_of_heap h.sp) (fun e => by have := h.nw _ e; omega)).trans h.sp, ho, fun k hk => by
    rcases hg.alt with e1 | ⟨e1, _⟩
    · exact h.nw k (e1 ▸ hk)
    · have := e1 k hk; have := lt_of_heap h.sp; omega,
   h.bel.trans ⟨hg.os, hg.tape, hg.output, hg.size, fun k hk => hg.old k (Nat.lt_of_lt_of_le hk h.bel.size) (fun e => by have := h.nw k e; omega)⟩⟩
theorem Dn.set {w w' : World} {v : Value} {b e : Nat} {l : List (Nat × Nat)} (h : Dn w w' v b e l) (b' e' : Nat) : Dn w ((w'.setCell ⟨w.heap.size, 0, none⟩ (.int .i64 (b' : Int))).setCell ⟨w.heap.size, 1, none⟩ (.int .i64 (e' : Int))) v b' e' l :=
  ⟨h.sp.two _ _, h.ow.kept (by simp [World.setCell]) (fun g hg => by
    have hne : g ≠ w.heap.size := by have := h.nw g hg; omega
    rw [heap_setCell_other _ ⟨w.heap.size, 1, none⟩ g _ hne, heap_setCell_other _ ⟨w.heap.size, 0, none⟩ g _ hne]), h.nw,
   (h.bel.setCell (p := ⟨w.heap.size, 0, none⟩) (Nat.le_refl _) _).setCell (p := ⟨w.heap.size, 1, none⟩) (Nat.le_refl _) _⟩
end Go.Proofs.YtenklmjeeejfdaaGreatDoor

namespace Go.Proofs.YtenklmjeeejfdaaGreatDoor
open Go.RowKit Go.Shelf
set_option maxRecDepth 100000 in
set_option maxHeartbeats 1000000 in
theorem rProof8_ok (N idx : Nat) (h0 : 1 ≤ idx) (h1 : idx < N) (h2 : N ≤ 1099511627776) (w : World) :
    Calls Tryz.prog 48 #[.int .i64 (idx : Int), .int .i64 (N : Int)] w (SpP w 0 (Tree.prfF N 0 N idx)) := by
  have S0 := SpI.new w 0 (N : Int)
  have B0 := (Below.refl _ w).alloc (Nat.le_refl _) (.cells #[.int .i64 0, .int .i64 (N : Int)] 56)
  have D0 : Dn w (w.alloc (.cells #[.int .i64 0, .int .i64 (N : Int)] 56)) (.slice none 0 0) 0 (0 + N) [] := ⟨by rw [Nat.zero_add]; exact S0, OwnM.nil 2 _, (fun k hk => by cases hk), B0⟩
  have HD := hid D0
  obtain ⟨R, hR⟩ : ∃ R, Tree.prfF N 0 N idx = R := ⟨_, rfl⟩
  have HR := hid hR
  rw [hR]
  clear S0 B0 D0 hR
  have a1 : ¬ (N : Int) < 1 := by omega
  have a2 : ¬ 1099511627776 < (N : Int) := by omega
  have a3 : ¬ (idx : Int) < 0 := by omega
  have a4 : ¬ (N : Int) ≤ (idx : Int) := by omega
  have a5 : (idx : Int) < (N : Int) := by omega
  go_enter Tryz.func48, Tryz.ntmps48
  go_wp2
  go_loopw [6] (fun v w' => ∃ (b m f : Nat) (l : List (Nat × Nat)), m ≤ f ∧ 1 ≤ m ∧ b < idx ∧ idx ≤ b + m ∧ b + m ≤ N ∧ l.length + m ≤ N ∧ Hid (Dn w w' v b (b + m) l) ∧ Hid (R = Tree.prfF f b m idx ++ l.reverse)) (fun v _ => N - slLen v)
  case atStart => exact ⟨0, N, N, [], Nat.le_refl _, by omega, by omega, by omega, by omega, by simp, HD, by rw [Hid, List.reverse_nil, List.append_nil]; exact HR.out.symm⟩
  case round =>
    clear HD HR
    obtain ⟨b, m, f, l, hmf, hm1, hb1, hb2, hbN, hlN, hD, hE⟩ := hrel
    have hsl := hD.out.ow.slLen
    obtain ⟨va, vc, hva, _, _⟩ := hD.out.ow.shape
    subst hva
    have c0 := hD.out.sp.c0
    have c1 := hD.out.sp.c1
    have g0 := hD.out.sp.f0
    have g1 := hD.out.sp.f1
    by_cases hm2 : b + m ≠ idx
    · have hm2 : 2 ≤ m := by omega
      obtain ⟨f, rfl⟩ : ∃ f', f = f' + 1 := ⟨f - 1, by omega⟩
      have s1 := Tree.sp_lt hm2
      have s2 := Tree.sp_pos hm2
      obtain ⟨mid, hmid⟩ : ∃ mid, b + Tree.sp m = mid := ⟨_, rfl⟩
      have hmh : Hid (mid = b + Tree.sp (b + m - b)) := by rw [Hid, Nat.add_sub_cancel_left]; exact hmid.symm
      have i1 := fun w' => rMiddle_at b (b + m) mid (by omega) (by omega) hmh w'
      have i2 := fun w' => rleft_at b (b + m) mid (by omega) (by omega) hmh w'
      have i3 := fun w' => rright_at b (b + m) mid (by omega) (by omega) hmh w'
      have hE := hE.out
      rw [Tree.prfF] at hE
      rw [if_neg (by omega)] at hE
      have HD := hD
      clear hD hmh
      obtain ⟨ee, hee⟩ : ∃ ee, b + m = ee := ⟨_, rfl⟩
      rw [hee] at HD i1 i2 i3 c1
      have q1 : ¬ (ee : Int) = (idx : Int) := by omega
      by_cases ht : idx ≤ mid
      · have t1 : (idx : Int) ≤ (mid : Int) := by omega
        rw [if_pos (by omega)] at hE
        have hE2 : R = Tree.prfF f b (Tree.sp m) idx ++ (l ++ [(mid, ee)]).reverse := by rw [List.reverse_append, List.reverse_singleton, hE, hmid, hee, List.append_assoc]
        have HE := hid hE2
        have hsum : b + (Tree.sp m) = mid := by omega
        clear hE hE2
        go_wp2_with (go_at_call 69; fail)
        refine (i1 _).mono ?_
        rintro r wa ⟨rfl, ba⟩
        have HDa := hid (HD.out.below ba)
        have e0 := HDa.out.sp.c0
        have e1 := HDa.out.sp.c1
        clear ba c0 c1 g0 g1 HD
        go_wp2_with (go_at_call 70; fail)
        refine (i3 _).mono ?_
        rintro r wb ⟨rfl, bb⟩
        have HDb := HDa.out.below bb
        obtain ⟨v', wc, hap, Oc, Gc⟩ := append_pair wb _ l mid ee HDb.ow (by omega)
        have HDc := hid (HDb.grow Gc Oc)
        have k0 := HDc.out.sp.c0
        have k1 := HDc.out.sp.c1
        clear bb HDb HDa Oc Gc e0 e1
        rw [show sg mid ee = Value.agg #[.int .i64 (mid : Int), .int .i64 (ee : Int)] from rfl]
        go_wp2_with (first
          | (go_at_call 71; fail)
          | (at_builtin; go_must (refine Lib.wpList_append_run _ rfl _ _ 36 36 rfl _ _ rfl rfl _ _ hap ?_)))
        refine (i2 _).mono ?_
        rintro r wd ⟨rfl, bd⟩
        have HDd := HDc.out.below bd
        have n0 := HDd.sp.c0
        have n1 := HDd.sp.c1
        have m0 := HDd.sp.f0
        have m1 := HDd.sp.f1
        have HDf := HDd.set b mid
        have HDf := hid HDf
        have hsl2 := HDd.ow.slLen
        clear bd HDc HDd k0 k1
        rw [show sg b mid = Value.agg #[.int .i64 (b : Int), .int .i64 (mid : Int)] from rfl]
        go_wp2
        refine ⟨⟨b, (Tree.sp m), f, l ++ [(mid, ee)], by omega, by omega, by omega, by omega, by omega, by rw [List.length_append]; simp; omega, by rw [hsum]; exact HDf, HE⟩, ?_⟩
        rw [hsl2, hsl, List.length_append]
        simp
        omega
      · have t1 : ¬ (idx : Int) ≤ (mid : Int) := by omega
        rw [if_neg (by omega)] at hE
        have hE2 : R = Tree.prfF f mid (m - Tree.sp m) idx ++ (l ++ [(b, mid)]).reverse := by rw [List.reverse_append, List.reverse_singleton, hE, hmid, List.append_assoc]
        have HE := hid hE2
        have hsum : mid + (m - Tree.sp m) = ee := by omega
        clear hE hE2
        go_wp2_with (go_at_call 69; fail)
        refine (i1 _).mono ?_
        rintro r wa ⟨rfl, ba⟩
        have HDa := hid (HD.out.below ba)
        have e0 := HDa.out.sp.c0
        have e1 := HDa.out.sp.c1
        clear ba c0 c1 g0 g1 HD
        go_wp2_with (go_at_call 71; fail)
        refine (i2 _).mono ?_
        rintro r wb ⟨rfl, bb⟩
        have HDb := HDa.out.below bb
        obtain ⟨v', wc, hap, Oc, Gc⟩ := append_pair wb _ l b mid HDb.ow (by omega)
        have HDc := hid (HDb.grow Gc Oc)
        have k0 := HDc.out.sp.c0
        have k1 := HDc.out.sp.c1
        clear bb HDb HDa Oc Gc e0 e1
        rw [show sg b mid = Value.agg #[.int .i64 (b : Int), .int .i64 (mid : Int)] from rfl]
        go_wp2_with (first
          | (go_at_call 70; fail)
          | (at_builtin; go_must (refine Lib.wpList_append_run _ rfl _ _ 36 36 rfl _ _ rfl rfl _ _ hap ?_)))
        refine (i3 _).mono ?_
        rintro r wd ⟨rfl, bd⟩
        have HDd := HDc.out.below bd
        have n0 := HDd.sp.c0
        have n1 := HDd.sp.c1
        have m0 := HDd.sp.f0
        have m1 := HDd.sp.f1
        have HDf := HDd.set mid ee
        have HDf := hid HDf
        have hsl2 := HDd.ow.slLen
        clear bd HDc HDd k0 k1
        rw [show sg mid ee = Value.agg #[.int .i64 (mid : Int), .int .i64 (ee : Int)] from rfl]
        go_wp2
        refine ⟨⟨mid, (m - Tree.sp m), f, l ++ [(b, mid)], by omega, by omega, by omega, by omega, by omega, by rw [List.length_append]; simp; omega, by rw [hsum]; exact HDf, HE⟩, ?_⟩
        rw [hsl2, hsl, List.length_append]
        simp
        omega
    · have hm3 : b + m = idx := Classical.not_not.1 hm2
      obtain ⟨f, rfl⟩ : ∃ f', f = f' + 1 := ⟨f - 1, by omega⟩
      have hE := hE.out
      rw [Tree.prfF, if_pos hm3] at hE
      rw [hm3] at c1
      by_cases hb0 : b = 0
      · subst hb0
        rw [if_pos rfl, List.nil_append] at hE
        have i4 := turned_any l va vc wr (by omega) (OwnP.atP hD.out.ow)
        have HB := hid hD.out.bel
        subst hE
        clear hD
        go_wp2_with (first
          | (go_at_call 72; refine i4.mono ?_; rintro r wt ⟨vt, rfl, Ot, Ft, bt⟩; have HO := hid Ot; have HF := hid Ft; have HB2 := hid (HB.out.trans (bt.mono HB.out.size)); have hbs := HB.out.size; clear Ot Ft bt))
        refine bodyPost_ret (results_tmp2 rfl _ _ _) rfl ?_
        exact ⟨HB2.out, vt, rfl, HO.out, fun k hk => Nat.le_trans hbs (HF.out k hk)⟩
      · rw [if_neg hb0] at hE
        have b1 : (0 : Int) < (b : Int) := by omega
        obtain ⟨v', wc, hap, Oc, Gc⟩ := append_pair wr _ l b idx hD.out.ow (by omega)
        have HDc := hD.out.grow Gc Oc
        obtain ⟨va', vc', hva', _, _⟩ := HDc.ow.shape
        subst hva'
        have hE2 : R = (l ++ [(b, idx)]).reverse := by rw [List.reverse_append, List.reverse_singleton, hE, hm3]
        have i4 := turned_any (l ++ [(b, idx)]) va' vc' wc (by rw [List.length_append]; simp; omega) (OwnP.atP HDc.ow)
        have HB := hid HDc.bel
        have hln : (l ++ [(b, idx)]).length = l.length + 1 := by simp
        rw [hln] at i4 hap
        subst hE2
        clear hD HDc Oc Gc hE
        go_wp2_with (first
          | (go_at_call 72; refine i4.mono ?_; rintro r wt ⟨vt, rfl, Ot, Ft, bt⟩; have HO := hid Ot; have HF := hid Ft; have HB2 := hid (HB.out.trans (bt.mono HB.out.size)); have hbs := HB.out.size; clear Ot Ft bt)
          | (at_builtin; go_must (refine Lib.wpList_append_run _ rfl _ _ 36 36 rfl _ _ rfl rfl _ _ hap ?_)))
        refine bodyPost_ret (results_tmp2 rfl _ _ _) rfl ?_
        exact ⟨HB2.out, vt, rfl, HO.out, fun k hk => Nat.le_trans hbs (HF.out k hk)⟩
end Go.Proofs.YtenklmjeeejfdaaGreatDoor

namespace Go.Proofs.YtenklmjeeejfdaaGreatDoor
open Go.RowKit Go.Shelf
namespace Chn
theorem rFolds13 {w : World} {a : Option Addr} {c n : Nat} {K : List (Nat × Nat)} (hn : Hid (K.length = n)) (ln : n ≤ 1000000) (h : OwnP w (.slice a n c) K) {x y : Nat} (hxy : x < y) (hy : y ≤ 1099511627776) :
    Calls Tryz.prog 49 #[.slice a n c, sg x y] w fun r w' => r = .returned (.bool (can K (x, y))) ∧ Below w.heap.size w w' := by
  have hl : K.length = (List.replicate K.length ([] : List UInt8)).length := by simp
  have hb : (pmC K).length = (bas (List.replicate K.length ([] : List UInt8))).length := by simp [pmC, bas]
  have e := ksp_prd (pmC K) (bas (List.replicate K.length ([] : List UInt8))) hb
  have hA : AtQ w a (ksp (prd (pmC K) (bas (List.replicate K.length ([] : List UInt8))))) := by rw [e]; exact (OwnP.atP h).q
  have hlen : (ksp (prd (pmC K) (bas (List.replicate K.length ([] : List UInt8))))).length = n := by rw [e]; simp [pmC]; exact hn.out
  have := rFolds8_any (K := prd (pmC K) (bas (List.replicate K.length ([] : List UInt8)))) (a := a) (c := c) (by rw [hlen]; omega) (y - x) x (y - x) w (Nat.le_refl _) (by omega) (by omega) hA
  rw [fdB_can hl (y - x) x (y - x) (Nat.le_refl _) (by omega), hlen, show x + (y - x) = y by omega] at this
  exact this
set_option maxRecDepth 100000 in
set_option maxHeartbeats 2000000 in
theorem rHeads_any (cs : List Int) (m : Nat) (HM : Hid (cs.length = m)) (a : Option Addr) (cap : Nat) (w : World) (hc : m ≤ 9223372036854775807) (hA : AtI w a cs) :
    Calls Tryz.prog 20 #[.slice a m cap] w fun r w' => r = .returned (.bool (mayB cs)) ∧ Below w.heap.size w w' := by
  obtain ⟨B, hB⟩ : ∃ B, Hid (mayB cs = B) := ⟨_, rfl⟩
  rw [hB.out]
  have bad : Hid (¬ (1 ≤ m ∧ m ≤ 64 ∧ 1 ≤ cs.getD 0 0 ∧ cs.getD (m - 1) 0 ≤ 1099511627776) → B = false) := fun hn => by
    rw [← hB.out]
    unfold mayB
    rw [HM.out, decide_eq_false hn, Bool.false_and]
  by_cases h1 : m = 0
  · have e := hid (bad.out (by omega))
    subst h1
    clear hA bad
    go_enter Tryz.func20, Tryz.ntmps20
    go_wp2
    go_ret
    exact ⟨by rw [e.out]; rfl, Below.refl _ _⟩
  · obtain ⟨x, rfl⟩ := hA.pos (by rw [HM.out]; omega)
    have q1 : ¬ (m : Int) < 1 := by omega
    have q0 : (0 : Int) < (m : Int) := by omega
    by_cases h2 : 64 < m
    · have e := hid (bad.out (by omega))
      have q2 : (64 : Int) < (m : Int) := by omega
      clear hA bad
      go_enter Tryz.func20, Tryz.ntmps20
      go_wp2
      go_ret
      exact ⟨by rw [e.out]; rfl, Below.refl _ _⟩
    · have q2 : ¬ (64 : Int) < (m : Int) := by omega
      have c0 : w.cell? x = some (.int .i64 (cs.getD 0 0)) := by
        obtain ⟨y, hy, _, hc0⟩ := hA 0 _ (getI (by rw [HM.out]; omega))
        obtain rfl := Option.some.inj hy
        exact hc0
      have c0' : w.cell? (x.add 0) = some (.int .i64 (cs.getD 0 0)) := c0
      have cL : w.cell? (x.add (m - 1)) = some (.int .i64 (cs.getD (m - 1) 0)) := by
        obtain ⟨y, hy, _, hc0⟩ := hA (m - 1) _ (getI (by rw [HM.out]; omega))
        obtain rfl := Option.some.inj hy
        exact hc0
      have HA := hid hA
      have w1 : IntKind.i64.wrap ((m : Int) - 1) = (m : Int) - 1 := by rw [IntKind.wrap_i64]; omega
      have w2 : ((m : Int) - 1).toNat = m - 1 := by omega
      have w3 : (0 : Int) ≤ (m : Int) - 1 := by omega
      have w4 : (m : Int) - 1 < (m : Int) := by omega
      by_cases h3 : cs.getD 0 0 < 1
      · have e := hid (bad.out (by omega))
        clear hA bad HA
        generalize cs.getD 0 0 = z at *
        go_enter Tryz.func20, Tryz.ntmps20
        go_wp2
        go_ret
        exact ⟨by rw [e.out]; rfl, Below.refl _ _⟩
      · by_cases h4 : 1099511627776 < cs.getD (m - 1) 0
        · have e := hid (bad.out (by omega))
          clear hA bad HA
          generalize cs.getD 0 0 = z at *
          generalize cs.getD (m - 1) 0 = y at *
          go_enter Tryz.func20, Tryz.ntmps20
          go_wp2
          go_ret
          exact ⟨by rw [e.out]; rfl, Below.refl _ _⟩
        · have eB : Hid (B = upTo cs (m - 1)) := by
            unfold Hid
            rw [← hB.out]
            unfold mayB
            rw [HM.out, decide_eq_true (by omega), Bool.true_and]
          clear hA bad hB
          obtain ⟨z, hz⟩ : ∃ z, cs.getD 0 0 = z := ⟨_, rfl⟩
          obtain ⟨y, hy⟩ : ∃ y, cs.getD (m - 1) 0 = y := ⟨_, rfl⟩
          rw [hz] at c0 c0' h3
          rw [hy] at cL h4
          clear hz hy
          go_enter Tryz.func20, Tryz.ntmps20
          go_wp2
          clear c0 c0' cL
          go_loopw [3] (fun i w' => ∃ J j : Nat, J ≤ m - 1 ∧ Hid (j = J + 1) ∧ i = .int .i64 (j : Int) ∧ Hid (upTo cs J = true) ∧ Hid (Below w.heap.size w w')) (fun i _ => m - (intOf i).toNat)
          case atStart => exact ⟨0, 1, by omega, rfl, rfl, rfl, Below.refl _ _⟩
          case round =>
            obtain ⟨J, j, hJ, hj, rfl, hup, hbw⟩ := hrel
            by_cases hjm : J < m - 1
            · have b0 : (j : Int) < (m : Int) := by have := hj.out; omega
              have d0 : wr.cell? (x.add J) = some (.int .i64 (cs.getD J 0)) := by
                obtain ⟨y, hy, _, hc0⟩ := (HA.out.below hbw.out (Nat.le_refl _)) J _ (getI (by rw [HM.out]; omega))
                obtain rfl := Option.some.inj hy
                exact hc0
              have d1 : wr.cell? (x.add j) = some (.int .i64 (cs.getD j 0)) := by
                obtain ⟨y, hy, _, hc0⟩ := (HA.out.below hbw.out (Nat.le_refl _)) j _ (getI (by rw [HM.out]; have := hj.out; omega))
                obtain rfl := Option.some.inj hy
                exact hc0
              have v1 : IntKind.i64.wrap ((j : Int) - 1) = (J : Int) := by rw [IntKind.wrap_i64]; have := hj.out; omega
              have v3 : (0 : Int) ≤ (J : Int) := by omega
              have v4 : (J : Int) < (m : Int) := by omega
              have v6 : (0 : Int) ≤ (j : Int) := by omega
              have hcj : Hid (cs.getD (J + 1) 0 = cs.getD j 0) := by unfold Hid; rw [hj.out]
              by_cases hlt : cs.getD J 0 < cs.getD (J + 1) 0
              · have e2 : Hid (upTo cs (J + 1) = true) := by unfold Hid; rw [upTo_next, hup.out, decide_eq_true hlt]; rfl
                have hge : ¬ cs.getD j 0 ≤ cs.getD J 0 := by rw [← hcj.out]; omega
                generalize cs.getD J 0 = p at *
                generalize cs.getD j 0 = q at *
                clear hup hlt hcj
                go_wp2
                go_quiet (fail)
                go_wp2
                exact ⟨⟨J + 1, j + 1, by omega, by unfold Hid; rw [hj.out], by go_num, e2, (by exact ⟨hbw.out.os, hbw.out.tape, hbw.out.output, hbw.out.size, hbw.out.block⟩)⟩, by simp [intOf]; omega⟩
              · have e3 : Hid (B = false) := by unfold Hid; rw [eB.out]; exact upTo_not hjm hlt
                have hge : cs.getD j 0 ≤ cs.getD J 0 := by rw [← hcj.out]; omega
                generalize cs.getD J 0 = p at *
                generalize cs.getD j 0 = q at *
                clear hup hlt hcj
                go_wp2
                go_quiet (fail)
                go_wp2
                go_ret
                exact ⟨by rw [e3.out]; rfl, (by exact ⟨hbw.out.os, hbw.out.tape, hbw.out.output, hbw.out.size, hbw.out.block⟩)⟩
            · have b0 : ¬ (j : Int) < (m : Int) := by have := hj.out; omega
              have e3 : Hid (B = true) := by unfold Hid; rw [eB.out, show m - 1 = J by omega]; exact hup.out
              clear hup
              go_wp2
              go_ret
              exact ⟨by rw [e3.out]; rfl, hbw.out⟩
end Chn
end Go.Proofs.YtenklmjeeejfdaaGreatDoor

namespace Go.Proofs.YtenklmjeeejfdaaGreatDoor
open Go.RowKit Go.Shelf
namespace Chn
structure Rl (w w' : World) (v : Value) (K : List (Nat × Nat)) : Prop where
  own : OwnP w' v K
  ge : ∀ k, v.ownBlock = some k → w.heap.size ≤ k
  bel : Below w.heap.size w w'
theorem Rl.below {w w' w2 : World} {v : Value} {K : List (Nat × Nat)} (h : Rl w w' v K) (hb : Below w'.heap.size w' w2) : Rl w w2 v K := ⟨h.own.below hb, h.ge, h.bel.trans (hb.mono h.bel.size)⟩
theorem Rl.push {w w' w2 : World} {v v' : Value} {K K' : List (Nat × Nat)} (h : Rl w w' v K) (o : OwnP w2 v' K') (g : Grow w' w2 v v') : Rl w w2 v' K' :=
  ⟨o, fun k hk => by
    have := h.bel.size
    rcases Grow.alt' g k hk with e | e
    · exact h.ge k e
    · omega, h.bel.trans (keep_belowC g.keep h.bel.size h.ge)⟩
set_option maxRecDepth 100000 in
set_option maxHeartbeats 2000000 in
theorem rspans_any (hs : List Nat) (H : Hds hs) (m : Nat) (HM : Hid (hs.length = m)) (a : Option Addr) (cap : Nat) (w : World) (hA : AtI w a (ix hs)) :
    Calls Tryz.prog 30 #[.slice a m cap] w fun r w' => ∃ v, r = .returned v ∧ Rl w w' v (told hs) := by
  have l1 : 1 ≤ m := by rw [← HM.out]; exact H.ne
  have l2 : m ≤ 64 := by rw [← HM.out]; exact H.le
  obtain ⟨x, rfl⟩ := hA.pos (by simp [ix]; rw [HM.out]; omega)
  have HA := hid hA
  have HH := hid H
  clear hA H
  go_enter Tryz.func30, Tryz.ntmps30
  go_wp2
  go_loopw [3, 4, 5, 6, 7, 8] (fun v i _ _ _ _ w' => ∃ J j : Nat, J ≤ m - 1 ∧ Hid (j = J + 1) ∧ i = .int .i64 (j : Int) ∧ Hid (Rl w w' v (tol hs J))) (fun _ i _ _ _ _ _ => m - (intOf i).toNat)
  case atStart => exact ⟨0, 1, by omega, rfl, rfl, ⟨OwnM.nil 2 _, (fun k hk => by cases hk), Below.refl _ _⟩⟩
  case round =>
    obtain ⟨J, j, hJ, hj, rfl, hT⟩ := hrel
    by_cases hjm : J < m - 1
    · have b0 : (j : Int) < (m : Int) := by have := hj.out; omega
      have hj1 : J + 1 < hs.length := by rw [HM.out]; omega
      have hj0 : J < hs.length := by omega
      have pr := HH.out.pair hj1
      have i1 := fun w' => rProof8_ok (hs.getD (J + 1) 0) (hs.getD J 0) pr.1 pr.2.1 pr.2.2 w'
      rw [show Tree.prfF (hs.getD (J + 1) 0) 0 (hs.getD (J + 1) 0) (hs.getD J 0) = prf (hs.getD J 0) (hs.getD (J + 1) 0) from rfl] at i1
      have A1 := HA.out.below hT.out.bel (Nat.le_refl _)
      have fact : ∀ w', AtI w' (some x) (ix hs) → w'.cell? (x.add J) = some (.int .i64 (hs.getD J 0 : Int)) ∧ w'.cell? (x.add j) = some (.int .i64 (hs.getD (J + 1) 0 : Int)) := fun w' h => by
        obtain ⟨y, hy, _, h0⟩ := h J _ (ix_at hj0)
        obtain ⟨z, hz, _, h1⟩ := h (J + 1) _ (ix_at hj1)
        obtain rfl := Option.some.inj hy
        obtain rfl := Option.some.inj hz
        rw [hj.out]
        exact ⟨h0, h1⟩
      have x0 := fact _ A1
      have HF := hid fact
      have HAW := hid (fun w' (h : Below wr.heap.size wr w') => A1.below h (Nat.le_refl _))
      have hL : Hid (tol hs (J + 1) = tells (tol hs J) (prf (hs.getD J 0) (hs.getD (J + 1) 0))) := rfl
      have hlo := prf_lo pr.1 (Nat.le_of_lt pr.2.1)
      have hln := prf_len pr.1 (Nat.le_of_lt pr.2.1) pr.2.2
      have hKl := hid (tol_few HH.out (i := J) hj0)
      have p3 := pr.2.2
      unfold Hid at HF
      generalize hs.getD J 0 = A at *
      generalize hs.getD (J + 1) 0 = B at *
      have HF := hid HF
      generalize prf A B = L at *
      have HL := hid hlo
      have v1 : IntKind.i64.wrap ((j : Int) - 1) = (J : Int) := by rw [IntKind.wrap_i64]; have := hj.out; omega
      have v3 : (0 : Int) ≤ (J : Int) := by omega
      have v4 : (J : Int) < (m : Int) := by omega
      have v6 : (0 : Int) ≤ (j : Int) := by omega
      clear fact A1 pr hlo
      go_wp2
      go_region_held3 (fun w' => w'.cell? (x.add J) = some (.int .i64 (A : Int)) ∧ w'.cell? (x.add j) = some (.int .i64 (B : Int))) (first | exact x1 | exact x0) (first | (go_at_call 48; refine (i1 _).mono ?_; rintro r w1 ⟨b1, vL, rfl, OL, hvL⟩; have b1 := drewBelow8 b1; have x1 := HF.out _ (HAW.out _ b1); have T1 := hid (hT.out.below b1); have OF : Hid (∀ k, vL.ownBlock = some k → ¬ u3.ownBlock = some k) := (fun k hk e => by { have h1 : wr.heap.size ≤ k := hvL k hk; have := hT.out.own.lt k e; omega }); have BS1 := hid OL; obtain ⟨la, lc, rfl, _, _⟩ := OL.shape; clear OL hvL b1))
      clear x0 x1 hT HAW HF
      obtain ⟨nl, hnl⟩ : ∃ nl, L.length = nl := ⟨_, rfl⟩
      have HNL := hid hnl
      unfold Hid at OF
      rw [hnl] at hln OF ⊢
      have OF := hid OF
      clear hnl
      go_wp2
      go_loopw [3, 7, 8] (fun v i _ w' => ∃ k : Nat, k ≤ nl ∧ i = .int .i64 (k : Int) ∧ Hid (Rl w w' v (tells (tol hs J) (L.take k))) ∧ Hid (OwnP w' (.slice la nl lc) L) ∧ Hid (∀ q, (Value.slice la nl lc).ownBlock = some q → ¬ v.ownBlock = some q)) (fun _ i _ _ => nl - (intOf i).toNat)
      case atStart => exact ⟨0, by omega, rfl, T1, (by have := BS1.out; unfold Hid; unfold OwnP at this ⊢; rw [HNL.out] at this ⊢; exact this), OF⟩
      case round =>
        clear T1 BS1 OF
        obtain ⟨k, hk, rfl, hT, hOw, hOf⟩ := hrel
        by_cases hkl : k < nl
        · have e0 : (k : Int) < (nl : Int) := by omega
          have e1 : (0 : Int) ≤ (k : Int) := by omega
          have hkL : k < L.length := by rw [HNL.out]; exact hkl
          obtain ⟨⟨sx, sy⟩, hs'⟩ : ∃ s, L[k]? = some s := ⟨_, List.getElem?_eq_getElem hkL⟩
          obtain ⟨g, hg0, hg, c0, c1⟩ := ownP_atC hOw.out hs'
          subst hg0
          have hss := HL.out _ (List.mem_of_getElem? hs')
          have hsx : sx < sy := hss.1
          have hsy : sy ≤ 1099511627776 := by have : sy ≤ B := hss.2; omega
          have nx := hid (tells_next (K := tol hs J) hs')
          have hKn : Hid ((tells (tol hs J) (L.take k)).length ≤ 1000000) := by
            have a1 := tells_len (L.take k) (tol hs J)
            have a2 : (L.take k).length ≤ nl := by rw [List.length_take, HNL.out]; omega
            have := hKl.out
            unfold Hid
            omega
          unfold Hid at hT hKn nx
          generalize tells (tol hs J) (L.take k) = K at *
          obtain ⟨va, vc, hva, _, _⟩ := hT.own.shape
          obtain ⟨kn, hkn⟩ : ∃ kn, K.length = kn := ⟨_, rfl⟩
          have HKN := hid hkn
          rw [hkn] at hva hKn
          subst hva
          have i3 := rFolds13 (show Hid (K.length = kn) from hkn) hKn (show OwnP wr (.slice va kn vc) K from hT.own) hsx hsy
          have hTT := hid hT
          clear hT hss hs' hkn
          cases hc : can K (sx, sy) with
          | true =>
            have nx : Hid (tells (tol hs J) (L.take (k + 1)) = K) := by unfold Hid; rw [nx]; unfold tell; rw [if_pos hc]
            rw [hc] at i3
            clear hc
            go_wp2_with (go_at_call 49; refine i3.mono ?_; rintro r w2 ⟨rfl, b2⟩; have T2 := hid (hTT.out.below b2); have B2 := hid (hOw.out.below b2); clear b2)
            exact ⟨⟨k + 1, by omega, by go_num, (by unfold Hid; rw [nx.out]; exact T2.out), B2, hOf⟩, by simp [intOf]; omega⟩
          | false =>
            have nx : Hid (tells (tol hs J) (L.take (k + 1)) = K ++ [(sx, sy)]) := by unfold Hid; rw [nx]; unfold tell; rw [if_neg (by rw [hc]; simp)]
            rw [hc] at i3
            clear hc
            go_wp2_with (first
              | (go_at_call 49; refine i3.mono ?_; rintro r w2 ⟨rfl, b2⟩; have T2 := hid (hTT.out.below b2); have B2 := hid (hOw.out.below b2); have d0 := (b2.cell (p := ⟨g, k * 2, none⟩) hg).trans c0; have d1 := (b2.cell (p := ⟨g, k * 2 + 1, none⟩) hg).trans c1; obtain ⟨v3, w3, hap, O3, G3⟩ := append_pair w2 (.slice va kn vc) K sx sy T2.out.own (by { have := HKN.out; omega }); have T3 := hid (T2.out.push O3 G3); have B3 := hid (B2.out.keep G3.keep hOf.out); have OF3 : Hid (∀ q, (Value.slice (some ⟨g, 0, none⟩) nl lc).ownBlock = some q → ¬ v3.ownBlock = some q) := (fun q hq e => by { rcases Grow.alt' G3 q e with h | h; exact hOf.out q hq h; have := B2.out.lt q hq; omega }); clear b2 O3 G3)
              | (at_builtin; go_must (refine Lib.wpList_append_run _ rfl _ _ 36 36 rfl _ _ rfl rfl _ _ hap ?_)))
            exact ⟨⟨k + 1, by omega, by go_num, (by unfold Hid; rw [nx.out]; exact T3.out), B3, OF3⟩, by simp [intOf]; omega⟩
        · obtain rfl : k = nl := by omega
          have e0 : ¬ (k : Int) < (k : Int) := by omega
          have T9 : Hid (Rl w wr u3 (tol hs (J + 1))) := by
            have := hT.out
            rw [← HNL.out, List.take_length, ← hL.out] at this
            exact this
          clear hT hOw hOf
          go_wp2
          exact ⟨⟨J + 1, j + 1, by omega, by unfold Hid; rw [hj.out], by go_num, T9⟩, by simp [intOf]; omega⟩
    · have b0 : ¬ (j : Int) < (m : Int) := by have := hj.out; omega
      have e1 : Hid (told hs = tol hs J) := by unfold Hid told; rw [HM.out, show m - 1 = J by omega]
      go_wp2
      go_ret
      exact ⟨_, rfl, by rw [e1.out]; exact hT.out⟩
set_option maxRecDepth 100000 in
set_option maxHeartbeats 2000000 in
theorem rNodes13_any (cs : List Int) (m : Nat) (hm : Hid (cs.length = m)) (ac : Option Addr) (cc : Nat) (w : World) (hA : AtI w ac cs) (lc : m ≤ 9223372036854775807) :
    Calls Tryz.prog 8 #[.slice ac m cc] w (SpP w (ndE cs) (ndL cs)) := by
  have i1 := rHeads_any cs m hm ac cc w lc hA
  cases hb : mayB cs with
  | false =>
    have e1 : ndE cs = 130 := by unfold ndE; rw [hb]; rfl
    have e2 : ndL cs = [] := by unfold ndL; rw [hb]; rfl
    rw [e1, e2]
    rw [hb] at i1
    clear hA hb hm e1 e2
    go_enter Tryz.func8, Tryz.ntmps8
    go_wp2_with (go_at_call 20; refine i1.mono ?_; rintro r w1 ⟨rfl, b1⟩; have B1 := hid b1; clear b1)
    go_ret2
    exact ⟨B1.out, _, rfl, OwnM.nil 2 _, (fun k hk => by cases hk)⟩
  | true =>
    obtain ⟨hs, rfl, HH⟩ := mayB_hds hb
    have e1 : ndE (ix hs) = 0 := by unfold ndE; rw [hb]; rfl
    have e2 : ndL (ix hs) = told hs := by unfold ndL; rw [hb, if_pos rfl, ix_toN]
    have hl : hs.length = m := by rw [← hm.out]; simp [ix]
    have i2 := fun w' (bb : Below w.heap.size w w') => rspans_any hs HH m hl ac cc w' (hA.below bb (Nat.le_refl _))
    rw [e1, e2]
    rw [hb] at i1
    clear hA hb hm e1 e2 hl
    go_enter Tryz.func8, Tryz.ntmps8
    go_wp2_with (first
      | (go_at_call 20; refine i1.mono ?_; rintro r w1 ⟨rfl, b1⟩; have B1 := hid b1; clear b1)
      | (go_at_call 30; refine (i2 _ B1.out).mono ?_; rintro r w2 ⟨v, rfl, rl⟩; have RL := hid rl; have B2 := hid (B1.out.trans (rl.bel.mono B1.out.size)); obtain ⟨va, vn, vc, rfl⟩ := ownM_sl rl.own; clear rl))
    go_ret2
    exact ⟨B2.out, _, rfl, RL.out.own, fun k hk => Nat.le_trans B1.out.size (RL.out.ge k hk)⟩
end Chn
end Go.Proofs.YtenklmjeeejfdaaGreatDoor
