import Derived.Test.YtbkppdkebcdcoaaDoorCSL5
namespace Go.Proofs.YtbkppdkebcdcoaaDoor
open Go.RowKit Go.Shelf
theorem ix_get {r : List Nat} {j x : Nat} (h : r[j]? = some x) : (ix r)[j]? = some (x : Int) := by unfold ix; rw [List.getElem?_map, h]; rfl
theorem pm_get {L : List (Nat × Nat)} {j : Nat} {s : Nat × Nat} (h : L[j]? = some s) : (L.map fun s => ((s.1 : Int), (s.2 : Int)))[j]? = some ((s.1 : Int), (s.2 : Int)) := by rw [List.getElem?_map, h]; rfl
theorem drop_get {L : List (Nat × Nat)} {j : Nat} {s : Nat × Nat} (h : L[j]? = some s) : L.drop j = s :: L.drop (j + 1) := by
  have hj : j < L.length := by
    rcases Nat.lt_or_ge j L.length with h2 | h2
    · exact h2
    · rw [List.getElem?_eq_none h2] at h; cases h
  rw [List.getElem?_eq_getElem hj] at h
  rw [List.drop_eq_getElem_cons hj, Option.some.inj h]
set_option maxRecDepth 100000 in
set_option maxHeartbeats 4000000 in
theorem apart_any (n : Nat) (L : List (Nat × Nat)) (r : List Nat) (al ar : Option Addr) (cl cr : Nat) (hn : n ≤ 1099511627776) (hL : L.length ≤ 1099511627776) (hrl : r.length ≤ 1099511627776) (hs : r.Pairwise (· < ·)) (hr : ∀ x ∈ r, x < n) (hap : Tree.Apt 0 n L (fun i => decide (i ∈ r))) (w : World) (h1 : AtP w al (L.map fun s => ((s.1 : Int), (s.2 : Int)))) (h2 : AtI w ar (ix r)) :
    Calls Tryd.prog 24 #[.int .i64 (n : Int), .slice al L.length cl, .slice ar r.length cr] w fun e w' => e = .returned (.bool true) ∧ Below w.heap.size w w' := by
  have H1 := hid h1
  have H2 := hid h2
  have HS := hid hs
  have HR := hid hr
  have S0 := hid (Tree.Stand.start hap)
  clear h1 h2 hs hr hap
  obtain ⟨M, hM⟩ : ∃ M, Hid (L.length = M) := ⟨_, rfl⟩
  obtain ⟨N, hN⟩ : ∃ N, Hid (r.length = N) := ⟨_, rfl⟩
  rw [hM.out] at hL ⊢
  rw [hN.out] at hrl ⊢
  go_enter Tryd.func24, Tryd.ntmps24
  go_wp2
  go_loopw [7, 8, 9] (fun a k i wr => ∃ A K I : Nat, a = .int .i64 (A : Int) ∧ k = .int .i64 (K : Int) ∧ i = .int .i64 (I : Int) ∧ I ≤ M ∧ Hid (Tree.Stand r n A K (L.drop I)) ∧ Hid (Below w.heap.size w wr)) (fun _ _ i _ => M + 1 - (intOf i).toNat)
  case atStart => exact ⟨0, 0, 0, rfl, rfl, rfl, by omega, S0, Below.refl _ _⟩
  case round =>
    clear S0
    obtain ⟨A, K, I, rfl, rfl, rfl, hI, hS, hB⟩ := hrel
    have b0 : (I : Int) ≤ (M : Int) := by omega
    obtain ⟨T, hT⟩ : ∃ T, Hid (Tree.tgt n (L.drop I) = T) := ⟨_, rfl⟩
    have hP := hid (hS.out.pos HR.out)
    rw [hT.out] at hP
    have hTn : T ≤ n := by
      rw [← hT.out]
      have ap := hS.out.ap
      cases hd : L.drop I with
      | nil => exact Nat.le_refl _
      | cons s rest =>
        rw [hd] at ap
        obtain ⟨a1, a2, a3, a4, a5, a6⟩ := ap
        show s.1 ≤ n
        omega
    go_wp2
    go_loopw [7, 8] (fun a k ws => ∃ A' K' : Nat, a = .int .i64 (A' : Int) ∧ k = .int .i64 (K' : Int) ∧ A' ≤ T ∧ K' ≤ N ∧ Hid (Tree.Pos r A' K' T) ∧ Hid (Below w.heap.size w ws)) (fun a _ _ => T - (intOf a).toNat)
    case atStart => exact ⟨A, K, rfl, rfl, hP.out.le, by have := hP.out.kl; have := hN.out; omega, hP, hB⟩
    case round =>
      clear hP hB
      obtain ⟨A', K', rfl, rfl, hA', hK', hP, hB⟩ := hrel
      have k0 : (0 : Int) ≤ (K' : Int) := by omega
      by_cases hgo : A' < T
      · obtain ⟨hg, hP2⟩ := hP.out.at HS.out hgo
        have hP2 := hid hP2
        have hKN : K' < N := by
          have := hP2.out.kl
          have := hN.out
          omega
        have b1 : (K' : Int) < (N : Int) := by omega
        obtain ⟨x, rfl, _, hc⟩ := (H2.out.below hB.out (Nat.le_refl _)) K' _ (ix_get hg)
        have wA : IntKind.i64.wrap ((A' : Int) + 1) = ((A' + 1 : Nat) : Int) := by rw [IntKind.wrap_i64]; omega
        have wK : IntKind.i64.wrap ((K' : Int) + 1) = ((K' + 1 : Nat) : Int) := by rw [IntKind.wrap_i64]; omega
        clear hg
        go_wp2
        exact ⟨⟨A' + 1, K' + 1, by go_num, by go_num, by omega, by omega, hP2, hB⟩, by simp [intOf]; omega⟩
      · obtain rfl : A' = T := by omega
        clear hgo
        by_cases hKN : K' < N
        · have b1 : (K' : Int) < (N : Int) := by omega
          obtain ⟨x, hx⟩ : ∃ x, r[K']? = some x := ⟨_, List.getElem?_eq_getElem (by have := hN.out; omega)⟩
          have hne := hP.out.done hx
          have hne' : ¬ (x : Int) = (A' : Int) := by omega
          obtain ⟨xa, rfl, _, hc⟩ := (H2.out.below hB.out (Nat.le_refl _)) K' _ (ix_get hx)
          clear hx hne
          by_cases hIM : I = M
          · subst hIM
            rw [List.drop_eq_nil_of_le (by have := hM.out; omega)] at hT
            have hT : n = A' := hT.out
            subst hT
            have hKe := Tree.Stand.last HR.out hP.out
            rw [hN.out] at hKe
            omega
          · have c0 : ¬ (I : Int) = (M : Int) := by omega
            have i0 : (0 : Int) ≤ (I : Int) := by omega
            have c1 : (I : Int) < (M : Int) := by omega
            obtain ⟨⟨B, E⟩, hq⟩ : ∃ s, L[I]? = some s := ⟨_, List.getElem?_eq_getElem (by have := hM.out; omega)⟩
            have hd := drop_get hq
            rw [hd] at hT hS
            have hT : B = A' := hT.out
            subst hT
            obtain ⟨n1, n2, n3⟩ := hS.out.next hP.out rfl
            have n1 : B < E := n1
            have n2 : E ≤ n := n2
            have n3 : Hid (Tree.Stand r n E K' (L.drop (I + 1))) := n3
            obtain ⟨g1, rfl, _, p0', p1'⟩ := (H1.out.below hB.out (Nat.le_refl _)) I _ (pm_get hq)
            have p0 : wr.cell? ⟨g1, I * 2, none⟩ = some (.int .i64 (B : Int)) := p0'
            have p1 : wr.cell? ⟨g1, I * 2 + 1, none⟩ = some (.int .i64 (E : Int)) := p1'
            have l1 : ¬ (E : Int) ≤ (B : Int) := by omega
            have wI : IntKind.i64.wrap ((I : Int) + 1) = ((I + 1 : Nat) : Int) := by rw [IntKind.wrap_i64]; omega
            clear hq hd hS hP p0' p1'
            go_wp2
            exact ⟨⟨E, K', I + 1, by go_num, by go_num, by go_num, by omega, n3, hB⟩, by simp [intOf]; omega⟩
        · obtain rfl : K' = N := by omega
          have b1 : ¬ (K' : Int) < (K' : Int) := by omega
          clear hKN
          by_cases hIM : I = M
          · subst hIM
            rw [List.drop_eq_nil_of_le (by have := hM.out; omega)] at hT
            have hT : n = A' := hT.out
            subst hT
            have hKe := Tree.Stand.last HR.out hP.out
            rw [hN.out] at hKe
            clear hKe
            go_wp2
            go_ret
            exact ⟨rfl, hB.out⟩
          · have c0 : ¬ (I : Int) = (M : Int) := by omega
            have i0 : (0 : Int) ≤ (I : Int) := by omega
            have c1 : (I : Int) < (M : Int) := by omega
            obtain ⟨⟨B, E⟩, hq⟩ : ∃ s, L[I]? = some s := ⟨_, List.getElem?_eq_getElem (by have := hM.out; omega)⟩
            have hd := drop_get hq
            rw [hd] at hT hS
            have hT : B = A' := hT.out
            subst hT
            obtain ⟨n1, n2, n3⟩ := hS.out.next hP.out rfl
            have n1 : B < E := n1
            have n2 : E ≤ n := n2
            have n3 : Hid (Tree.Stand r n E K' (L.drop (I + 1))) := n3
            obtain ⟨g1, rfl, _, p0', p1'⟩ := (H1.out.below hB.out (Nat.le_refl _)) I _ (pm_get hq)
            have p0 : wr.cell? ⟨g1, I * 2, none⟩ = some (.int .i64 (B : Int)) := p0'
            have p1 : wr.cell? ⟨g1, I * 2 + 1, none⟩ = some (.int .i64 (E : Int)) := p1'
            have l1 : ¬ (E : Int) ≤ (B : Int) := by omega
            have wI : IntKind.i64.wrap ((I : Int) + 1) = ((I + 1 : Nat) : Int) := by rw [IntKind.wrap_i64]; omega
            clear hq hd hS hP p0' p1'
            go_wp2
            exact ⟨⟨E, K', I + 1, by go_num, by go_num, by go_num, by omega, n3, hB⟩, by simp [intOf]; omega⟩
end Go.Proofs.YtbkppdkebcdcoaaDoor

namespace Go.Proofs.YtbkppdkebcdcoaaDoor
open Go.RowKit Go.Shelf
/-- what the document's lengths are, as closed facts of numbers -/
theorem lenOf_nat (N k : Nat) (h1 : k < N) (h2 : N ≤ 1099511627776) : lenOf (N : Int) (k : Int) = (((Tree.D N k).length : Int), 0) := by
  unfold lenOf
  rw [if_neg (by omega), if_neg (by omega), Int.toNat_natCast, Int.toNat_natCast]
theorem prfLen_nat (m N : Nat) (h0 : 1 ≤ m) (h1 : m ≤ N) (h2 : N ≤ 1099511627776) : prfLen (m : Int) (N : Int) = ((Tree.pl m N true : Int), 0) := by
  unfold prfLen
  rw [if_neg (by omega), Int.toNat_natCast, Int.toNat_natCast]
theorem D_le (N k : Nat) (h1 : k < N) (h2 : N ≤ 1099511627776) : (Tree.D N k).length ≤ 40 := by
  rw [Tree.D_U N N k (Nat.le_refl _) h1]
  exact Tree.U_len 40 _ _ (by omega)
theorem wit_whole {is : List Nat} {N : Nat} (h : ∀ i ∈ is, i < N) : Tree.wit is 0 (0 + N) = is := by
  unfold Tree.wit
  refine List.filter_eq_self.2 fun i hi => ?_
  have := h i hi
  exact decide_eq_true (by omega)
/-- a list of spans as the law reads it -/
abbrev pm (L : List (Nat × Nat)) : List (Int × Int) := L.map fun s => ((s.1 : Int), (s.2 : Int))
theorem path8_ans (N k dl : Nat) (h1 : k < N) (h2 : N ≤ 1099511627776) (hd : Hid ((Tree.D N k).length = dl)) (w : World) :
    Calls Tryd.prog 19 #[.int .i64 (N : Int), .int .i64 (k : Int)] w (Ans dl (pm (Tree.pthF N 0 N k)) w) := by
  have hE : pathE (N : Int) (k : Int) = 0 := by unfold pathE; rw [if_pos (by omega), if_pos (by omega)]
  have hL : pathL (N : Int) (k : Int) = Tree.pthF N 0 N k := by unfold pathL; rw [if_pos hE, Int.toNat_natCast, Int.toNat_natCast]
  refine (path8_any (N : Int) (k : Int) w).mono fun r w' h => h.ans hE ?_ (by rw [hL])
  rw [hL, Tree.pthF_len N 0 N k (Nat.le_refl _) (Nat.zero_le _), Nat.sub_zero, hd.out]
theorem proof8_ans (m N pl : Nat) (h0 : 1 ≤ m) (h1 : m ≤ N) (h2 : N ≤ 1099511627776) (hd : Hid (Tree.pl m N true = pl)) (w : World) :
    Calls Tryd.prog 20 #[.int .i64 (m : Int), .int .i64 (N : Int)] w (Ans pl (pm (Tree.prfF N 0 N m)) w) := by
  have hE : proofE (m : Int) (N : Int) = 0 := by unfold proofE; rw [if_pos (by omega)]
  have hL : proofL (m : Int) (N : Int) = Tree.prfF N 0 N m := by unfold proofL; rw [if_pos hE, Int.toNat_natCast, Int.toNat_natCast]
  refine (proof8_any (m : Int) (N : Int) w).mono fun r w' h => h.ans hE ?_ (by rw [hL])
  rw [hL, Tree.prfF_len N 0 N m (Nat.le_refl _) (by omega) (by omega), Nat.sub_zero]
  exact hd.out
theorem batch8_ans (N bl : Nat) (l : List Int) (h : BatOk (N : Int) l) (a : Option Addr) (cap : Nat) (hb : Hid ((Tree.othF N 0 N (toN l)).length = bl)) (w : World) (hA : AtI w a l) :
    Calls Tryd.prog 21 #[.int .i64 (N : Int), .slice a l.length cap] w (Ans bl (pm (Tree.othF N 0 N (toN l))) w) := by
  have hE := batchE_ok h
  have hL : batchL (N : Int) l = Tree.othF N 0 N (toN l) := by unfold batchL; rw [if_pos hE, Int.toNat_natCast]
  exact (batch8_any (N : Int) l a cap w (by have := h.l2; omega) hA).mono fun r w' h => h.ans hE (by rw [hL, hb.out]) (by rw [hL])
theorem run8_ans (N x y rl : Nat) (h0 : x < y) (h1 : y ≤ N) (h2 : N ≤ 1099511627776) (hd : Hid ((Tree.runF N 0 N x y).length = rl)) (w : World) :
    Calls Tryd.prog 25 #[.int .i64 (N : Int), sg x y] w (Ans rl (pm (Tree.runF N 0 N x y)) w) := by
  have hE : runE (N : Int) (x : Int) (y : Int) = 0 := by unfold runE; rw [if_pos (by omega), if_pos (by omega)]
  have hL : runL (N : Int) (x : Int) (y : Int) = Tree.runF N 0 N x y := by unfold runL; rw [if_pos hE, Int.toNat_natCast, Int.toNat_natCast, Int.toNat_natCast]
  exact (run8_any (N : Int) x y w).mono fun r w' h => h.ans hE (by rw [hL, hd.out]) (by rw [hL])
/-- H6 of a batch: how many spans -/
theorem bat_count {N : Nat} {l : List Int} (h : BatOk (N : Int) l) : (Tree.othF N 0 N (toN l)).length + l.length ≤ N ∧ (Tree.othF N 0 N (toN l)).length ≤ l.length * (Tree.D N 0).length := by
  have hN : 1 ≤ N := by have := h.n1; omega
  have hlt : ∀ i ∈ toN l, i < N := fun i hi => by have := h.lt i hi; rwa [Int.toNat_natCast] at this
  have hw := wit_whole hlt
  have hnd : (toN l).Nodup := h.sorted.imp fun {a b} hab => Nat.ne_of_lt hab
  have c1 := Tree.oth_count (toN l) hnd N 0 N (Nat.le_refl _) hN
  have c2 := Tree.oth_most (toN l) N 0 N (Nat.le_refl _) hN (Tree.tch_mem.2 (by
    have hl : 0 < (toN l).length := by rw [h.len]; exact h.l1
    exact ⟨(toN l)[0], List.getElem_mem hl, Nat.zero_le _, by have := hlt _ (List.getElem_mem hl); omega⟩))
  rw [hw, h.len] at c1 c2
  exact ⟨c1, c2⟩
theorem apart8_any (N bl : Nat) (l : List Int) (h : BatOk (N : Int) l) (al ar : Option Addr) (cl cr : Nat) (hb : Hid ((Tree.othF N 0 N (toN l)).length = bl)) (w : World) (h1 : AtP w al (pm (Tree.othF N 0 N (toN l)))) (h2 : AtI w ar l) :
    Calls Tryd.prog 24 #[.int .i64 (N : Int), .slice al bl cl, .slice ar l.length cr] w fun e w' => e = .returned (.bool true) ∧ Below w.heap.size w w' := by
  have hN : 1 ≤ N := by have := h.n1; omega
  have hN2 : N ≤ 1099511627776 := by have := h.n2; omega
  have hc := bat_count h
  have hi := h.ix
  have hA := Tree.othF_apart (toN l) N 0 N hN (Nat.le_refl _)
  rw [Nat.zero_add] at hA
  have := apart_any N _ (toN l) al ar cl cr hN2 (by omega) (by rw [h.len]; have := h.l2; omega) h.sorted (fun i hx => by have := h.lt i hx; rwa [Int.toNat_natCast] at this) hA w h1 (by rw [hi]; exact h2)
  rw [hb.out, h.len] at this
  exact this
end Go.Proofs.YtbkppdkebcdcoaaDoor

namespace Go.Proofs.YtbkppdkebcdcoaaDoor
open Go.RowKit Go.Shelf
theorem pk_nat (c : Int) (n : Nat) (hn : 1 ≤ n) : ∃ k : Nat, Hid (pk c (n : Int) = (k : Int)) ∧ k < n := by
  have q0 := pk_nonneg c (n : Int) (by omega)
  have q1 := pk_lt c (n : Int) (by omega)
  exact ⟨(pk c (n : Int)).toNat, by unfold Hid; omega, by omega⟩
theorem Apt_len : ∀ {L : List (Nat × Nat)} {b e : Nat} {p : Nat → Bool}, Tree.Apt b e L p → L.length + b ≤ e
  | [], b, e, p, h => by have := h.1; simpa using this
  | s :: L, b, e, p, h => by
    obtain ⟨a1, a2, a3, a4, a5, a6⟩ := h
    have := Apt_len a6
    rw [List.length_cons]
    omega
set_option maxRecDepth 100000 in
set_option maxHeartbeats 8000000 in
theorem parts8_law (size index first many : Int) (cs : List Int) (a : Option Addr) (cap : Nat) (hs1 : -9223372036854775808 ≤ size) (hs2 : size ≤ 9223372036854775807) (hi1 : -9223372036854775808 ≤ index) (hi2 : index ≤ 9223372036854775807)
    (hf1 : -9223372036854775808 ≤ first) (hf2 : first ≤ 9223372036854775807) (hm1 : -9223372036854775808 ≤ many) (hm2 : many ≤ 9223372036854775807) (hcs : cs.length ≤ 9223372036854775807) (hw : ∀ x ∈ cs, -9223372036854775808 ≤ x ∧ x ≤ 9223372036854775807) (w : World) (hA : AtI w a cs) (Z : Tb w) :
    Calls Tryd.prog 5 #[.int .i64 size, .int .i64 index, .int .i64 first, .slice a cs.length cap, .int .i64 many] w fun r w' => r = .returned (.bool true) ∧ Below w.heap.size w w' := by
  have i0 := known8_any w Z
  have i1 := fun w' => pick_any size 1099511627776 hs1 hs2 (by omega) (by omega) w'
  have hp0 := pk_nonneg size 1099511627776 (by omega)
  have hp1 := pk_lt size 1099511627776 (by omega)
  generalize pk size 1099511627776 = p at *
  obtain ⟨N, hN⟩ : ∃ N : Nat, 1 + p = (N : Int) := ⟨(1 + p).toNat, by omega⟩
  have hNw : IntKind.i64.wrap (1 + p) = (N : Int) := by rw [IntKind.wrap_i64]; omega
  have n1 : 1 ≤ N := by omega
  have n2 : N ≤ 1099511627776 := by omega
  clear hp0 hp1 hN
  obtain ⟨k, hk, hkN⟩ := pk_nat index N n1
  have i2 := fun w' => pick_any index (N : Int) hi1 hi2 (by omega) (by omega) w'
  rw [hk.out] at i2
  obtain ⟨m0, hm, hm0⟩ := pk_nat first N n1
  have i3 := fun w' => pick_any first (N : Int) hf1 hf2 (by omega) (by omega) w'
  rw [hm.out] at i3
  obtain ⟨m, hmm⟩ : ∃ m : Nat, m = m0 + 1 := ⟨_, rfl⟩
  have hmw : IntKind.i64.wrap (1 + (m0 : Int)) = (m : Int) := by rw [IntKind.wrap_i64]; omega
  have m1 : 1 ≤ m := by omega
  have m2 : m ≤ N := by omega
  clear hmm hm0
  have i4 := fun w' h => rising8_any N cs a cap n1 n2 hcs hw w' h
  generalize cs.length = nc at *
  obtain ⟨dl, hdl⟩ : ∃ dl, Hid ((Tree.D N k).length = dl) := ⟨_, rfl⟩
  obtain ⟨ql, hql⟩ : ∃ ql, Hid (Tree.pl m N true = ql) := ⟨_, rfl⟩
  obtain ⟨mo, hmo⟩ : ∃ mo, Hid ((Tree.D N 0).length = mo) := ⟨_, rfl⟩
  have hmo2 : mo ≤ 40 := by rw [← hmo.out]; exact D_le N 0 (by omega) n2
  have i5 := fun w' => path8_ans N k dl hkN n2 hdl w'
  have i6 := fun w' => proof8_ans m N ql m1 m2 n2 hql w'
  have i8 := fun w' => rPathLen_any (N : Int) (k : Int) w'
  rw [lenOf_nat N k hkN n2, hdl.out] at i8
  have i9 := fun w' => rProofLen_any (m : Int) (N : Int) w'
  rw [prfLen_nat m N m1 m2 n2, hql.out] at i9
  have i10 := fun w' => rPathLen_any (N : Int) 0 w'
  have e10 : lenOf (N : Int) 0 = ((mo : Int), 0) := by
    have e := lenOf_nat N 0 (by omega) n2
    rw [hmo.out] at e
    exact e
  rw [e10] at i10
  clear e10
  generalize Tree.pthF N 0 N k = LP at *
  generalize Tree.prfF N 0 N m = LQ at *
  obtain ⟨R, hR⟩ : ∃ R : Nat, (N : Int) - (k : Int) = (R : Int) := ⟨N - k, by omega⟩
  have hRw : IntKind.i64.wrap ((N : Int) - (k : Int)) = (R : Int) := by rw [IntKind.wrap_i64]; omega
  obtain ⟨q, hq, hqR⟩ := pk_nat many R (by omega)
  have i12 := fun w' => pick_any many (R : Int) hm1 hm2 (by omega) (by omega) w'
  rw [hq.out] at i12
  obtain ⟨k1, hk1⟩ : ∃ k1 : Nat, k1 = k + 1 := ⟨_, rfl⟩
  have hk1w : IntKind.i64.wrap ((k : Int) + 1) = (k1 : Int) := by rw [IntKind.wrap_i64]; omega
  obtain ⟨Y, hY⟩ : ∃ Y : Nat, Y = k1 + q := ⟨_, rfl⟩
  have hYw : IntKind.i64.wrap ((k1 : Int) + (q : Int)) = (Y : Int) := by rw [IntKind.wrap_i64]; omega
  have hkY : k < Y := by omega
  have hYN : Y ≤ N := by omega
  clear hR hqR hk1 hY
  obtain ⟨rl, hrl⟩ : ∃ rl, Hid ((Tree.runF N 0 N k Y).length = rl) := ⟨_, rfl⟩
  have i13 := fun w' => run8_ans N k Y rl hkY hYN n2 hrl w'
  have HA := hid hA
  clear hA Z hw
  go_enter Tryd.func5, Tryd.ntmps5
  go_wp2_with (first
    | (go_at_call 9; refine i0.mono ?_; rintro r w1 ⟨rfl, b1⟩; have b1 := hid b1; clear i0)
    | (go_at_call 10; (first | (with_reducible refine (i1 _).mono ?_) | (with_reducible refine (i2 _).mono ?_) | (with_reducible refine (i3 _).mono ?_)); rintro r w' ⟨rfl, h0⟩; have h0 := h0.symm; subst h0)
    | (go_at_call 18; fail))
  refine (i4 _ (HA.out.below b1.out (Nat.le_refl _))).mono ?_
  rintro r w2 ⟨ra, rc, L, rfl, hLA, hBk, b2⟩
  have B2 := hid (b1.out.trans (b2.mono b1.out.size))
  obtain ⟨bl, hbl⟩ : ∃ bl, Hid ((Tree.othF N 0 N (toN L)).length = bl) := ⟨_, rfl⟩
  have hbc := bat_count hBk
  rw [hbl.out, hmo.out] at hbc
  have hl2 := hBk.l2
  have i7 := fun w' h => batch8_ans N bl L hBk ra rc hbl w' h
  have i11 := fun al cl cr w' h1 h2 => apart8_any N bl L hBk al ra cl cr hbl w' h1 h2
  generalize Tree.othF N 0 N (toN L) = LB at *
  obtain ⟨lr, hlr⟩ : ∃ lr, L.length = lr := ⟨_, rfl⟩
  rw [hlr] at hbc hl2 i7 i11 ⊢
  obtain ⟨X, hX⟩ : ∃ X : Nat, Hid (lr * mo = X) := ⟨_, rfl⟩
  have hX2 : X ≤ 256 * 40 := by rw [← hX.out]; exact Nat.mul_le_mul hl2 hmo2
  have hXi : (lr : Int) * (mo : Int) = (X : Int) := by rw [← hX.out]; omega
  have hXw : IntKind.i64.wrap (X : Int) = (X : Int) := by rw [IntKind.wrap_i64]; omega
  rw [hX.out] at hbc
  have g1 : ¬ (X : Int) < (bl : Int) := by omega
  obtain ⟨D, hD⟩ : ∃ D : Nat, (N : Int) - (lr : Int) = (D : Int) := ⟨N - lr, by omega⟩
  have hDw : IntKind.i64.wrap ((N : Int) - (lr : Int)) = (D : Int) := by rw [IntKind.wrap_i64]; omega
  have g2 : ¬ (D : Int) < (bl : Int) := by omega
  have hLA := hid hLA
  clear hlr hbc hD hBk b1 b2 i4 HA hk hm hdl hql hmo hq
  go_wp2_with (first
    | (go_at_call 19; refine (i5 _).mono ?_; rintro r w3 ⟨pa, pc, rfl, _, b3⟩; have B3 := hid (B2.out.trans (b3.mono B2.out.size)); have hLA3 := hid (hLA.out.below b3 (Nat.le_refl _)); clear b3)
    | (go_at_call 20; refine (i6 _).mono ?_; rintro r w4 ⟨qa, qc, rfl, _, b4⟩; have B4 := hid (B3.out.trans (b4.mono B3.out.size)); have hLA4 := hid (hLA3.out.below b4 (Nat.le_refl _)); clear b4)
    | (go_at_call 21; refine (i7 _ hLA4.out).mono ?_; rintro r w5 ⟨ba, bc, rfl, hBa, b5⟩; have hBa := hid hBa; have B5 := hid (B4.out.trans (b5.mono B4.out.size)); have hLA5 := hid (hLA4.out.below b5 (Nat.le_refl _)); clear b5)
    | (go_at_call 22; (first | (with_reducible refine (i8 _).mono ?_) | (with_reducible refine (i10 _).mono ?_)); rintro r w' ⟨rfl, h0⟩; have h0 := h0.symm; subst h0)
    | (go_at_call 23; refine (i9 _).mono ?_; rintro r w' ⟨rfl, h0⟩; have h0 := h0.symm; subst h0)
    | (go_at_call 24; fail))
  refine (i11 _ _ _ _ hBa.out hLA5.out).mono ?_
  rintro r w6 ⟨rfl, b6⟩
  have B6 := hid (B5.out.trans (b6.mono B5.out.size))
  have S6 := hid (SpI.new w6 (k : Int) (Y : Int))
  have c0 := S6.out.c0
  have c1 := S6.out.c1
  have BS := hid (B6.out.trans (((Below.refl _ w6).alloc (Nat.le_refl _) (.cells #[.int .i64 (k : Int), .int .i64 (Y : Int)] 25)).mono B6.out.size))
  clear b6 i1 i2 i3 i5 i6 i7 i8 i9 i10 i11 hLA hLA3 hLA4 hLA5 hBa B2 B3 B4 B5 hNw hmw
  obtain ⟨gS, hgS⟩ : ∃ gS, Hid (w6.heap.size = gS) := ⟨_, rfl⟩
  have hov := Tree.Over.start (n := N) (by have h := Tree.runF_apart k Y N 0 N n1 (Nat.le_refl _) hkY; rw [Nat.zero_add] at h; exact h)
  have hrN := Apt_len hov.ap
  rw [hrl.out] at hrN
  generalize Tree.runF N 0 N k Y = LR at *
  have hov := hid hov
  go_wp2_with (first
    | (go_at_call 10; refine (i12 _).mono ?_; rintro r w' ⟨rfl, h0⟩; have h0 := h0.symm; subst h0)
    | (go_at_call 25; fail))
  refine (i13 _).mono ?_
  rintro r w8 ⟨xa, xc, rfl, hX8, b8⟩
  have S8 := hid (S6.out.below b8)
  have B8 := hid (BS.out.trans (b8.mono BS.out.size))
  have hX8 := hid hX8
  rw [hgS.out] at S8
  clear S6 c0 c1 BS b8 i12 i13
  try rw [hgS.out]
  go_wp2
  go_loopw [32, 33] (fun t i wr => ∃ A I : Nat, t = .int .i64 (A : Int) ∧ i = .int .i64 (I : Int) ∧ I ≤ rl ∧ Hid (Tree.Over k Y N A (LR.drop I)) ∧ Hid (SpI wr gS (k : Int) (Y : Int)) ∧ Hid (AtP wr xa (pm LR)) ∧ Hid (Below w.heap.size w wr)) (fun _ i _ => rl - (intOf i).toNat)
  case atStart => exact ⟨0, 0, rfl, rfl, by omega, hov, S8, hX8, B8⟩
  case round =>
    clear hov S8 hX8 B8
    obtain ⟨A, I, rfl, rfl, hI, hO, hS, hP, hB⟩ := hrel
    have c0 := hS.out.c0
    have c1 := hS.out.c1
    have i0 : (0 : Int) ≤ (I : Int) := by omega
    by_cases hIr : I < rl
    · have b0 : (I : Int) < (rl : Int) := by omega
      obtain ⟨⟨B, E⟩, hq⟩ : ∃ s, LR[I]? = some s := ⟨_, List.getElem?_eq_getElem (by have := hrl.out; omega)⟩
      have hd := drop_get hq
      rw [hd] at hO
      obtain ⟨o1, o2, o3, o4⟩ := hO.out.next hkY
      have o1 : B = Tree.hop k Y A := o1
      have o2 : B < E := o2
      have o3 : E ≤ N := o3
      have o4 : Hid (Tree.Over k Y N E (LR.drop (I + 1))) := o4
      obtain ⟨g1, hxa, _, p0', p1'⟩ := hP.out I _ (pm_get hq)
      subst hxa
      have p0 : wr.cell? ⟨g1, I * 2, none⟩ = some (.int .i64 (B : Int)) := p0'
      have p1 : wr.cell? ⟨g1, I * 2 + 1, none⟩ = some (.int .i64 (E : Int)) := p1'
      have l1 : ¬ (E : Int) ≤ (B : Int) := by omega
      have wI : IntKind.i64.wrap ((I : Int) + 1) = ((I + 1 : Nat) : Int) := by rw [IntKind.wrap_i64]; omega
      clear hq hd hO p0' p1'
      by_cases hAk : A = k
      · rw [Tree.hop, if_pos hAk] at o1
        subst hAk o1
        go_wp2
        exact ⟨⟨E, I + 1, by go_num, by go_num, by omega, o4, hS, hP, hB⟩, by simp [intOf]; omega⟩
      · rw [Tree.hop, if_neg hAk] at o1
        subst o1
        have hAk' : ¬ (B : Int) = (k : Int) := by omega
        clear hAk
        go_wp2
        exact ⟨⟨E, I + 1, by go_num, by go_num, by omega, o4, hS, hP, hB⟩, by simp [intOf]; omega⟩
    · obtain rfl : I = rl := by omega
      have b0 : ¬ (I : Int) < (I : Int) := by omega
      rw [List.drop_eq_nil_of_le (by have := hrl.out; omega)] at hO
      have hl := hO.out.last hkY hYN
      clear hO
      by_cases hAk : A = k
      · rw [Tree.hop, if_pos hAk] at hl
        subst hAk hl
        go_wp2
        go_ret
        exact ⟨rfl, hB.out⟩
      · rw [Tree.hop, if_neg hAk] at hl
        subst hl
        have hAk' : ¬ (A : Int) = (k : Int) := by omega
        clear hAk
        go_wp2
        go_ret
        exact ⟨rfl, hB.out⟩
end Go.Proofs.YtbkppdkebcdcoaaDoor

namespace Go.Proofs.YtbkppdkebcdcoaaDoor
open Go.RowKit Go.Shelf
/-- rising's answer, with its capacity -/
def RisQ (n : Nat) (w : World) (r : Ending) (w' : World) : Prop := ∃ (a : Option Addr) (cap : Nat) (L : List Int), r = .returned (.slice a L.length cap) ∧ AtI w' a L ∧ BatOk n L ∧ Below w.heap.size w w' ∧ L.length ≤ cap ∧ cap ≤ 9223372036854775807
set_option maxRecDepth 100000 in
set_option maxHeartbeats 4000000 in
theorem rising20_any (n : Nat) (cs : List Int) (a : Option Addr) (cap : Nat) (hn : 1 ≤ n) (hn2 : n ≤ 1099511627776) (hcs : cs.length ≤ 9223372036854775807) (hw : ∀ x ∈ cs, -9223372036854775808 ≤ x ∧ x ≤ 9223372036854775807) (w : World) (hA : AtI w a cs) :
    Calls Tryd.prog 18 #[.slice a cs.length cap, .int .i64 (n : Int), .int .i64 20] w (RisQ n w) := by
  have HA := hid hA
  have HW := hid hw
  clear hA hw
  generalize hN : cs.length = N at *
  go_enter Tryd.func18, Tryd.ntmps18
  go_wp2
  go_loopw [7, 8, 9] (fun v t i w' => ∃ (L : List Int) (A k : Nat), Hid (L.length = k) ∧ t = .int .i64 (A : Int) ∧ i = .int .i64 (k : Int) ∧ A ≤ n ∧ k ≤ N ∧ k ≤ 20 ∧ Hid (Rsn L A) ∧ Hid (Own w' w.heap.size v (iv8 L)) ∧ Hid (Below w.heap.size w w')) (fun _ _ i _ => 20 - (intOf i).toNat)
  case atStart => exact ⟨[], 0, 0, rfl, rfl, rfl, by omega, by omega, by omega, Rsn.nil _, Own.nil _ _, Below.refl _ _⟩
  case round =>
    obtain ⟨L, A, k, hk, rfl, rfl, hAn, hkN, hk2, hR, hO, hB⟩ := hrel
    obtain ⟨oa, oc, hv, hat, hcp⟩ := hO.out.atI8
    have hcp := hid hcp
    rw [hk.out] at hv
    subst hv
    have hat := hid hat
    by_cases hgo : (k : Int) < (N : Int) ∧ (k : Int) < 20 ∧ (A : Int) < (n : Int)
    · obtain ⟨g1, g2, g3⟩ := hgo
      obtain ⟨x, rfl⟩ := HA.out.pos (by omega)
      have hcell := (HA.out.below hB.out (Nat.le_refl _)).cell k (by omega)
      have hcw := HW.out (cs[k]'(by omega)) (List.getElem_mem _)
      generalize cs[k]'(by omega) = c at *
      obtain ⟨R, hRn⟩ : ∃ R : Nat, (n : Int) - (A : Int) = (R : Int) := ⟨n - A, by omega⟩
      have hRw : IntKind.i64.wrap ((n : Int) - (A : Int)) = (R : Int) := by rw [IntKind.wrap_i64]; omega
      obtain ⟨t, htt⟩ : ∃ t : Int, Int.tmod (k : Int) 2 = t := ⟨_, rfl⟩
      by_cases ht : t = 0
      · subst ht
        by_cases h4 : (40 : Int) < (R : Int)
        · have ip := fun w' => pick_any c (40 : Int) (by omega) (by omega) (by omega) (by omega) w'
          have q0 := pk_nonneg c (40 : Int) (by omega)
          have q1 := pk_lt c (40 : Int) (by omega)
          obtain ⟨q, hq⟩ : ∃ q : Nat, Hid (pk c (40 : Int) = (q : Int)) := ⟨(pk c (40 : Int)).toNat, by unfold Hid; omega⟩
          rw [hq.out] at q0 q1
          have hs : IntKind.i64.wrap ((A : Int) + (q : Int)) = ((A + q : Nat) : Int) := by rw [IntKind.wrap_i64]; omega
          have hs' : IntKind.i64.wrap (((A + q : Nat) : Int) + 1) = ((A + q + 1 : Nat) : Int) := by rw [IntKind.wrap_i64]; omega
          obtain ⟨v3, w3, hap, hO3, hb3⟩ := append_int8 wr w.heap.size _ L ((A + q : Nat) : Int) hO.out (by have := hk.out; omega) hB.out.size
          generalize hG : A + q = G at *
          go_wp2_with (first
            | (go_at_call 10; refine (ip _).mono ?_; rintro e w2 ⟨rfl, h0⟩; have h0 := h0.symm; subst h0; rw [hq.out])
            | (at_builtin; go_must (refine Lib.wpList_append_run _ rfl _ _ 41 41 rfl _ _ rfl rfl _ _ hap ?_)))
          exact ⟨⟨L ++ [((G : Nat) : Int)], G + 1, k + 1, by unfold Hid; have := hk.out; simp; omega, by go_num, by go_num, by omega, by omega, by omega, by unfold Hid; rw [← hG]; exact hR.out.push q, hO3, hB.out.trans hb3⟩, by simp [intOf]; omega⟩
        · have ip := fun w' => pick_any c (R : Int) (by omega) (by omega) (by omega) (by omega) w'
          have q0 := pk_nonneg c (R : Int) (by omega)
          have q1 := pk_lt c (R : Int) (by omega)
          obtain ⟨q, hq⟩ : ∃ q : Nat, Hid (pk c (R : Int) = (q : Int)) := ⟨(pk c (R : Int)).toNat, by unfold Hid; omega⟩
          rw [hq.out] at q0 q1
          have hs : IntKind.i64.wrap ((A : Int) + (q : Int)) = ((A + q : Nat) : Int) := by rw [IntKind.wrap_i64]; omega
          have hs' : IntKind.i64.wrap (((A + q : Nat) : Int) + 1) = ((A + q + 1 : Nat) : Int) := by rw [IntKind.wrap_i64]; omega
          obtain ⟨v3, w3, hap, hO3, hb3⟩ := append_int8 wr w.heap.size _ L ((A + q : Nat) : Int) hO.out (by have := hk.out; omega) hB.out.size
          generalize hG : A + q = G at *
          go_wp2_with (first
            | (go_at_call 10; refine (ip _).mono ?_; rintro e w2 ⟨rfl, h0⟩; have h0 := h0.symm; subst h0; rw [hq.out])
            | (at_builtin; go_must (refine Lib.wpList_append_run _ rfl _ _ 41 41 rfl _ _ rfl rfl _ _ hap ?_)))
          exact ⟨⟨L ++ [((G : Nat) : Int)], G + 1, k + 1, by unfold Hid; have := hk.out; simp; omega, by go_num, by go_num, by omega, by omega, by omega, by unfold Hid; rw [← hG]; exact hR.out.push q, hO3, hB.out.trans hb3⟩, by simp [intOf]; omega⟩
      · have ht' : (t == 0) = false := by simpa using ht
        have ip := fun w' => pick_any c (R : Int) (by omega) (by omega) (by omega) (by omega) w'
        have q0 := pk_nonneg c (R : Int) (by omega)
        have q1 := pk_lt c (R : Int) (by omega)
        obtain ⟨q, hq⟩ : ∃ q : Nat, Hid (pk c (R : Int) = (q : Int)) := ⟨(pk c (R : Int)).toNat, by unfold Hid; omega⟩
        rw [hq.out] at q0 q1
        have hs : IntKind.i64.wrap ((A : Int) + (q : Int)) = ((A + q : Nat) : Int) := by rw [IntKind.wrap_i64]; omega
        have hs' : IntKind.i64.wrap (((A + q : Nat) : Int) + 1) = ((A + q + 1 : Nat) : Int) := by rw [IntKind.wrap_i64]; omega
        obtain ⟨v3, w3, hap, hO3, hb3⟩ := append_int8 wr w.heap.size _ L ((A + q : Nat) : Int) hO.out (by have := hk.out; omega) hB.out.size
        generalize hG : A + q = G at *
        go_wp2_with (first
          | (go_at_call 10; refine (ip _).mono ?_; rintro e w2 ⟨rfl, h0⟩; have h0 := h0.symm; subst h0; rw [hq.out])
          | (at_builtin; go_must (refine Lib.wpList_append_run _ rfl _ _ 41 41 rfl _ _ rfl rfl _ _ hap ?_)))
        exact ⟨⟨L ++ [((G : Nat) : Int)], G + 1, k + 1, by unfold Hid; have := hk.out; simp; omega, by go_num, by go_num, by omega, by omega, by omega, by unfold Hid; rw [← hG]; exact hR.out.push q, hO3, hB.out.trans hb3⟩, by simp [intOf]; omega⟩
    · by_cases g1 : (k : Int) < (N : Int)
      · by_cases g2 : (k : Int) < 20
        · have g3 : ¬ (A : Int) < (n : Int) := fun h => hgo ⟨g1, g2, h⟩
          clear hgo
          by_cases hz : k = 0
          · subst hz
            obtain rfl : L = [] := List.eq_nil_of_length_eq_zero hk.out
            have ip := fun w' => pick_any (n : Int) (n : Int) (by omega) (by omega) (by omega) (by omega) w'
            have q0 := pk_nonneg (n : Int) (n : Int) (by omega)
            have q1 := pk_lt (n : Int) (n : Int) (by omega)
            obtain ⟨q, hq⟩ : ∃ q : Nat, Hid (pk (n : Int) (n : Int) = (q : Int)) := ⟨(pk (n : Int) (n : Int)).toNat, by unfold Hid; omega⟩
            rw [hq.out] at q0 q1
            obtain ⟨v3, w3, hap, hO3, hb3⟩ := append_int8 wr w.heap.size _ [] ((q : Nat) : Int) hO.out (by simp) hB.out.size
            go_wp2_with (first
              | (go_at_call 10; refine (ip _).mono ?_; rintro e w2 ⟨rfl, h0⟩; have h0 := h0.symm; subst h0; rw [hq.out])
              | (at_builtin; go_must (refine Lib.wpList_append_run _ rfl _ _ 41 41 rfl _ _ rfl rfl _ _ hap ?_)))
            go_ret
            obtain ⟨oa, oc, rfl, hat3, hcp3⟩ := hO3.atI8
            refine ⟨oa, oc, _, rfl, hat3, Rsn.ok (A := q + 1) ?_ (by omega) hn hn2 (by simp) (by simp), hB.out.trans hb3, hcp3⟩
            have := (Rsn.nil 0).push q
            simpa using this
          · have hz' : ¬ (k : Int) = 0 := by omega
            go_wp2
            go_ret
            have hat := hat.out
            refine ⟨oa, oc, L, by rw [hk.out]; rfl, hat, hR.out.ok hAn hn hn2 (by have := hk.out; omega) (by have := hk.out; omega), hB.out, hcp.out⟩
        · clear hgo
          have hz : ¬ k = 0 := by omega
          have hz' : ¬ (k : Int) = 0 := by omega
          go_wp2
          go_ret
          have hat := hat.out
          refine ⟨oa, oc, L, by rw [hk.out]; rfl, hat, hR.out.ok hAn hn hn2 (by have := hk.out; omega) (by have := hk.out; omega), hB.out, hcp.out⟩
      · clear hgo
        by_cases hz : k = 0
        · subst hz
          obtain rfl : L = [] := List.eq_nil_of_length_eq_zero hk.out
          have ip := fun w' => pick_any (n : Int) (n : Int) (by omega) (by omega) (by omega) (by omega) w'
          have q0 := pk_nonneg (n : Int) (n : Int) (by omega)
          have q1 := pk_lt (n : Int) (n : Int) (by omega)
          obtain ⟨q, hq⟩ : ∃ q : Nat, Hid (pk (n : Int) (n : Int) = (q : Int)) := ⟨(pk (n : Int) (n : Int)).toNat, by unfold Hid; omega⟩
          rw [hq.out] at q0 q1
          obtain ⟨v3, w3, hap, hO3, hb3⟩ := append_int8 wr w.heap.size _ [] ((q : Nat) : Int) hO.out (by simp) hB.out.size
          go_wp2_with (first
            | (go_at_call 10; refine (ip _).mono ?_; rintro e w2 ⟨rfl, h0⟩; have h0 := h0.symm; subst h0; rw [hq.out])
            | (at_builtin; go_must (refine Lib.wpList_append_run _ rfl _ _ 41 41 rfl _ _ rfl rfl _ _ hap ?_)))
          go_ret
          obtain ⟨oa, oc, rfl, hat3, hcp3⟩ := hO3.atI8
          refine ⟨oa, oc, _, rfl, hat3, Rsn.ok (A := q + 1) ?_ (by omega) hn hn2 (by simp) (by simp), hB.out.trans hb3, hcp3⟩
          have := (Rsn.nil 0).push q
          simpa using this
        · have hz' : ¬ (k : Int) = 0 := by omega
          go_wp2
          go_ret
          have hat := hat.out
          refine ⟨oa, oc, L, by rw [hk.out]; rfl, hat, hR.out.ok hAn hn hn2 (by have := hk.out; omega) (by have := hk.out; omega), hB.out, hcp.out⟩

theorem partOut_ok {l : List (List UInt8)} {b e : Nat} (hw : wrg l = 0) (h1 : b ≤ e) (h2 : e ≤ l.length) : partOut l (b : Int) (e : Int) = (Tree.root (Tree.seg l b e), 0) := by
  unfold partOut
  rw [if_pos hw, if_pos (by omega), Int.toNat_natCast, Int.toNat_natCast]; rfl
set_option maxRecDepth 100000 in
set_option maxHeartbeats 1000000 in
theorem folded8_any (l : List (List UInt8)) (b e : Nat) (h : List UInt8) (hh : Hid (Tree.root (Tree.seg l b e) = h)) (a : Option Addr) (cap : Nat) (w : World) (hw : wrg l = 0) (h1 : b ≤ e) (h2 : e ≤ l.length) (hl : l.length ≤ cap) (hc : cap ≤ 9223372036854775807) (hA : At w a l) (T : Tb w) :
    Calls Tryd.prog 37 #[.slice a l.length cap, sg b e] w fun x w' => x = .returned (sv h) ∧ Below w.heap.size w w' := by
  have hb0 := (Below.refl w.heap.size w).alloc (Nat.le_refl _) (.cells #[.int .i64 (b : Int), .int .i64 (e : Int)] 25)
  have hA1 := hA.below hb0 (Nat.le_refl _)
  have i1 := Part_any l b e a cap _ hl hc hA1 (T.below hb0 T.lt).t
  rw [partOut_ok hw h1 h2, hh.out] at i1
  have S0 := SpI.new w b e
  have c0 := S0.c0
  have c1 := S0.c1
  have B0 := hid hb0
  have i1 := hid i1
  clear hb0 hA1 hA T S0 hl hc
  generalize l.length = n at *
  go_enter Tryd.func37, Tryd.ntmps37
  go_wp2_with (go_at_call 71; refine i1.out.mono ?_; rintro r w2 ⟨rfl, hb2⟩; have B2 := hid (B0.out.trans (hb2.mono B0.out.size)))
  go_ret
  exact ⟨rfl, B2.out⟩
set_option maxRecDepth 100000 in
set_option maxHeartbeats 1000000 in
theorem hashed8_any (l : List (List UInt8)) (L : List (Nat × Nat)) (W : List (List UInt8)) (hLW : L.map (fun s => Tree.root (Tree.seg l s.1 s.2)) = W) (hin : ∀ s ∈ L, s.1 ≤ s.2 ∧ s.2 ≤ l.length) (a al aw : Option Addr) (cap cl cw : Nat) (w : World) (hw : wrg l = 0) (hl : l.length ≤ cap) (hc : cap ≤ 9223372036854775807) (hn : L.length ≤ 1099511627776) (hA : At w a l) (hL : AtP w al (pm L)) (hW : At w aw W) (T : Tb w) :
    Calls Tryd.prog 36 #[.slice a l.length cap, .slice al L.length cl, .slice aw W.length cw] w fun x w' => x = .returned (.bool true) ∧ Below w.heap.size w w' := by
  have hWl : W.length = L.length := by rw [← hLW, List.length_map]
  have HA := hid hA
  have HL := hid hL
  have HW := hid hW
  have HT := hid T
  have HM := hid hLW
  have HI := hid hin
  have hTl := T.lt
  rw [hWl]
  clear hA hL hW T hLW hin hWl
  obtain ⟨N, hN⟩ : ∃ N, Hid (L.length = N) := ⟨_, rfl⟩
  rw [hN.out] at hn ⊢
  have i1 := fun b e h hh w' (B : Below w.heap.size w w') h1 h2 => folded8_any l b e h hh a cap w' hw h1 h2 hl hc (HA.out.below B (Nat.le_refl _)) (HT.out.below B hTl)
  go_enter Tryd.func36, Tryd.ntmps36
  go_wp2
  go_loopw [7] (fun i wr => ∃ k : Nat, i = .int .i64 (k : Int) ∧ k ≤ N ∧ Hid (Below w.heap.size w wr)) (fun i _ => N - (intOf i).toNat)
  case atStart => exact ⟨0, rfl, Nat.zero_le _, Below.refl _ _⟩
  case round =>
    obtain ⟨k, rfl, hk, hB⟩ := hrel
    by_cases hkn : k < N
    · have b0 : (k : Int) < (N : Int) := by omega
      have b1 : (0 : Int) ≤ (k : Int) := by omega
      obtain ⟨⟨x, y⟩, hq⟩ : ∃ s, L[k]? = some s := ⟨_, List.getElem?_eq_getElem (by have := hN.out; omega)⟩
      obtain ⟨g1, hal, _, p0', p1'⟩ := (HL.out.below hB.out (Nat.le_refl _)) k _ (pm_get hq)
      subst hal
      have p0 : wr.cell? ⟨g1, k * 2, none⟩ = some (.int .i64 (x : Int)) := p0'
      have p1 : wr.cell? ⟨g1, k * 2 + 1, none⟩ = some (.int .i64 (y : Int)) := p1'
      obtain ⟨h, hh⟩ : ∃ h, Hid (Tree.root (Tree.seg l x y) = h) := ⟨_, rfl⟩
      have hWk : W[k]? = some h := by rw [← HM.out, List.getElem?_map, hq, ← hh.out]; rfl
      obtain ⟨xw, haw, hxl, q0⟩ := HW.out k h hWk
      subst haw
      have hxy := HI.out _ (List.mem_of_getElem? hq)
      have i2 := i1 x y h hh wr hB.out hxy.1 hxy.2
      have wI : IntKind.i64.wrap ((k : Int) + 1) = ((k + 1 : Nat) : Int) := by rw [IntKind.wrap_i64]; omega
      clear hq p0' p1' hxy i1
      go_wp2_with (go_at_call 37; fail)
      refine i2.mono ?_
      rintro r w2 ⟨rfl, hb2⟩
      have B2 := hid (hB.out.trans (hb2.mono hB.out.size))
      obtain ⟨x', e', _, q2⟩ := (HW.out.below B2.out (Nat.le_refl _)) k h hWk
      cases e'
      clear hb2 hWk q0 hh i2
      rw [svS] at q2 ⊢
      generalize ByteArray.mk h.toArray = p at *
      have y1 : (p.toList == p.toList) = true := by simp
      have y2 : (p.toList != p.toList) = false := by simp
      go_wp2
      exact ⟨⟨k + 1, by go_num, by omega, B2⟩, by simp [intOf]; omega⟩
    · obtain rfl : k = N := by omega
      have b0 : ¬ (k : Int) < (k : Int) := by omega
      go_wp2
      go_ret
      exact ⟨rfl, hB.out⟩
end Go.Proofs.YtbkppdkebcdcoaaDoor
