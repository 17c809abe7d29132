import Derived.Test.YtkiibcfjjplkaaaDoorCSI1
import Derived.Test.YtkiibcfjjplkaaaDoorCI18
namespace Go.Proofs.YtkiibcfjjplkaaaDoor
open Go.RowKit Go.Shelf
/-- what one round of the law's calls answers -/
structure Acc (w4 : World) (q : Nat) (al : Option Addr) (cl n m m1 : Nat) (P Q : List (List UInt8)) (R O x : List UInt8) : Prop where
  lp : P.length ≤ 9223372036854775807
  lq : Q.length ≤ 9223372036854775807
  jI : ∀ w', Below w4.heap.size w4 w' → Calls Tryd.prog 10 #[.pointer (some ⟨q, 0, none⟩), .int .i64 (n : Int), .int .i64 (m : Int)] w' (RwP w' P)
  jC : ∀ w', Below w4.heap.size w4 w' → Calls Tryd.prog 12 #[.pointer (some ⟨q, 0, none⟩), .int .i64 (m1 : Int), .int .i64 (n : Int)] w' (RwP w' Q)
  jP : ∀ w', Below w4.heap.size w4 w' → Calls Tryd.prog 16 #[.slice al n cl, .int .i64 (m : Int)] w' (Out2 w' (P, 0))
  jQ : ∀ w', Below w4.heap.size w4 w' → Calls Tryd.prog 17 #[.slice al n cl, .int .i64 (m1 : Int)] w' (Out2 w' (Q, 0))
  jR : ∀ w', Below w4.heap.size w4 w' → Calls Tryd.prog 19 #[.pointer (some ⟨q, 0, none⟩), .int .i64 (n : Int)] w' fun r w'' => r = .returned (.tuple #[sv R, .int .i64 0]) ∧ Below w'.heap.size w' w''
  jO : ∀ w', Below w4.heap.size w4 w' → Calls Tryd.prog 19 #[.pointer (some ⟨q, 0, none⟩), .int .i64 (m1 : Int)] w' fun r w'' => r = .returned (.tuple #[sv O, .int .i64 0]) ∧ Below w'.heap.size w' w''
  jV : ∀ w' g, Below w4.heap.size w4 w' → At w' (some ⟨g, 0, none⟩) P → Calls Tryd.prog 20 #[.int .i64 (n : Int), .int .i64 (m : Int), sv x, .slice (some ⟨g, 0, none⟩) P.length P.length, sv R] w' fun e w'' => e = .returned (.int .i64 0) ∧ Below w'.heap.size w' w''
  jW : ∀ w' g, Below w4.heap.size w4 w' → At w' (some ⟨g, 0, none⟩) Q → Calls Tryd.prog 21 #[.int .i64 (m1 : Int), .int .i64 (n : Int), sv O, sv R, .slice (some ⟨g, 0, none⟩) Q.length Q.length] w' fun e w'' => e = .returned (.int .i64 0) ∧ Below w'.heap.size w' w''
  jx : ∀ w', Below w4.heap.size w4 w' → ∃ y : Addr, al = some y ∧ w'.cell? (y.add m) = some (sv x)
theorem acc_of {w4 : World} {q h : Nat} {L : List (List UInt8)} {F : Nat → Prop} (t : TrL w4 q h L F) (Z : Tb w4) {al : Option Addr} {cl : Nat} (hA : At w4 al L) (hl : L.length ≤ 300) (hcl : L.length ≤ cl) (hc : cl ≤ 9223372036854775807) {n m m1 : Nat} (hm : m < n) (hn : n ≤ L.length) (h1 : m1 = m + 1) :
    ∃ P Q R O x, Acc w4 q al cl n m m1 P Q R O x := by
  have hX : Tree.Hs (L.take n) := t.hs.take n
  have lX : (L.take n).length = n := by rw [List.length_take]; omega
  have hK : (L.take n)[m]? = some L[m] := by rw [List.getElem?_take, if_pos hm, List.getElem?_eq_getElem]
  have ts := treeSays hX (by omega) hK (M := m1) (by omega) (by omega)
  have tt : (L.take n).take m1 = L.take m1 := by rw [List.take_take]; congr 1; omega
  have r32 : (Tree.root (L.take n)).length = 32 := Tree.root_hash hX
  have sp1 := pthF_short n 0 n m
  have sp2 := prfF_short n 0 n m1
  have e1 : (Tree.path m (L.take n)).length = (Tree.pthF n 0 n m).length := by rw [← hsh_path L hm hn, hsh_len]
  have e2 : (Tree.proof m1 (L.take n) true).length = (Tree.prfF n 0 n m1).length := by rw [← hsh_proof L (by omega) (by omega) hn, hsh_len]
  have inc : incOf4 (n : Int) (m : Int) L[m] (Tree.path m (L.take n)) (Tree.root (L.take n)) = 0 := by
    have := ts.root
    rw [lX] at this
    rw [inc_is this, if_pos r32, if_pos rfl]
  have con : conOf4 (m1 : Int) (n : Int) (Tree.root (L.take m1)) (Tree.root (L.take n)) (Tree.proof m1 (L.take n) true) = 0 := by
    have := ts.roots
    rw [lX, tt] at this
    unfold conOf4
    rw [this, if_pos rfl, if_pos r32, if_pos rfl]
  refine ⟨Tree.path m (L.take n), Tree.proof m1 (L.take n) true, Tree.root (L.take n), Tree.root (L.take m1), L[m], ?_⟩
  constructor
  case lp => omega
  case lq => omega
  case jI => exact fun w' hb => inc11_ok (t.below hb) (Z.below hb Z.lt) n m hm hn
  case jC => exact fun w' hb => con11_ok (t.below hb) (Z.below hb Z.lt) m1 n (by omega) (by omega) hn
  case jP => exact fun w' hb => Path_at hX (by omega) (by omega) rfl al n cl w' lX (by omega) hc ((hA.below hb (Nat.le_refl _)).take n) (Z.below hb Z.lt).t
  case jQ => exact fun w' hb => Proof_at hX (by omega) (by omega) (by omega) rfl al n cl w' lX (by omega) hc ((hA.below hb (Nat.le_refl _)).take n) (Z.below hb Z.lt).t
  case jR => exact fun w' hb => tRoot_any (t.below hb) (n : Int) (Z.below hb Z.lt) (tPartO_nat (b := 0) (Nat.zero_le _) hn)
  case jO => exact fun w' hb => tRoot_any (t.below hb) (m1 : Int) (Z.below hb Z.lt) (tPartO_nat (b := 0) (Nat.zero_le _) (by omega))
  case jV => exact fun w' g hb hP => Inclusion_at inc _ _ _ w' rfl (by omega) hP (Z.below hb Z.lt).t
  case jW => exact fun w' g hb hQ => Consistency_at con _ _ _ w' rfl (by omega) hQ (Z.below hb Z.lt).t
  case jx =>
    intro w' hb
    obtain ⟨y, e, _, hc⟩ := (hA.below hb (Nat.le_refl _)) m L[m] (List.getElem?_eq_getElem _)
    exact ⟨y, e, hc⟩
set_option maxRecDepth 100000 in
set_option maxHeartbeats 8000000 in
theorem accepted11_law (ht : Int) (cs ds : List Int) (a d : Option Addr) (ca cd : Nat) (w : World) (h1 : -9223372036854775808 ≤ ht) (h2 : ht ≤ 9223372036854775807) (hcs : cs.length ≤ 9223372036854775807) (hin : ∀ c ∈ ds, -9223372036854775808 ≤ c ∧ c ≤ 9223372036854775807) (hA : AtI w a cs) (hD : AtI w d ds) (Z : Tb w) :
    Calls Tryd.prog 4 #[.int .i64 ht, .slice a cs.length ca, .slice d ds.length cd] w fun e w' => e = .returned (.bool true) ∧ Below w.heap.size w w' := by
  have i0 := known11_any w Z
  have HZ := hid Z
  have hT := Z.lt
  have HD := hid hD
  have HA := hid hA
  have HI := hid hin
  have j1 := fun w' (hb : Below w.heap.size w w') => filled11_any ht cs a ca w' h1 h2 hcs (hA.below hb (Nat.le_refl _)) (Z.below hb Z.lt)
  obtain ⟨nc, hnc⟩ : ∃ nc, cs.length = nc := ⟨_, rfl⟩
  obtain ⟨nd, hnd⟩ : ∃ nd, ds.length = nd := ⟨_, rfl⟩
  rw [hnc] at j1 hcs
  rw [hnc, hnd]
  have HC := hid hnc
  have HDn := hid hnd
  clear hA hD Z hin hnc hnd
  go_enter Tryd.func4, Tryd.ntmps4
  go_wp2_with (first
    | (go_at_call 6; refine i0.mono ?_; rintro r w1 ⟨rfl, b1⟩; have B1 := hid b1; clear b1 i0)
    | (go_at_call 7; fail))
  refine (j1 _ B1.out).mono ?_
  rintro r w2 ⟨q, h, F, rfl, _, t2, _, b2⟩
  have B2 := hid (B1.out.trans (b2.mono B1.out.size))
  have T2 := hid t2
  have A2 := hid (HA.out.below B2.out (Nat.le_refl _))
  clear j1 b2 t2 B1 HA
  go_wp2
  go_loopw [9, 10] (fun v i w' => ∃ k : Nat, k ≤ nc ∧ k ≤ 300 ∧ i = .int .i64 (k : Int) ∧ Hid (Own w' w2.heap.size v (svs (nums cs k))) ∧ Hid (Below w2.heap.size w2 w')) (fun _ i _ => 300 - (intOf i).toNat)
  case atStart => exact ⟨0, by omega, by omega, rfl, Own.nil _ _, Below.refl _ _⟩
  case round =>
    obtain ⟨k, hk, hkM, rfl, hO, hB⟩ := hrel
    by_cases hkn : k < nc ∧ k < 300
    · obtain ⟨h1, h2⟩ := hkn
      have b0 : (k : Int) < (nc : Int) := by omega
      have b1 : (k : Int) < 300 := by omega
      have hkc : k < cs.length := by rw [HC.out]; exact h1
      obtain ⟨y, rfl, _, hcell⟩ := (A2.out.below hB.out (Nat.le_refl _)) k cs[k] (List.getElem?_eq_getElem hkc)
      have hnx := hid (nums_succ cs k hkc)
      have hl := nums_len cs k
      generalize cs[k] = c at *
      obtain ⟨r, hr⟩ : ∃ r, Hid (lf c = r) := ⟨_, rfl⟩
      go_wp2_with (first
        | (go_at_call 15; refine (lleaf_at c r hr _).mono ?_; rintro e w3 ⟨rfl, hw3⟩; obtain ⟨v3, w3', hap, hO3, hb3⟩ := append_text w3 w2.heap.size _ (nums cs k) r (hO.out.below hw3 (Nat.le_refl _)) (by omega) (Nat.le_trans hB.out.size hw3.size); rw [show sv r = Value.string ⟨r.toArray⟩ from rfl] at hap ⊢)
        | (at_builtin; go_must (refine Lib.wpList_append_run _ rfl _ _ 28 28 rfl _ _ rfl rfl _ _ hap ?_)))
      exact ⟨⟨k + 1, by omega, by omega, by go_num, by unfold Hid; rw [hnx.out, hr.out]; exact hO3, (hB.out.trans (hw3.mono hB.out.size)).trans hb3⟩, by simp [intOf]; omega⟩
    · have e : nums cs k = nums cs 300 := by
        have := HC.out
        by_cases h : k < nc
        · rw [show k = 300 from by omega]
        · rw [nums, nums, List.take_of_length_le (by omega), List.take_of_length_le (by omega)]
      rw [e] at hO
      have hL3 := nums_most cs 300
      obtain ⟨al, cl, rfl, hAL, hlc, hcl⟩ := Own.at4 hO.out
      have T4 := hid (T2.out.below hB.out)
      have AL := hid hAL
      have B4 := hid (B2.out.trans (hB.out.mono B2.out.size))
      have Z4 := hid (HZ.out.below B4.out hT)
      have D4 := hid (HD.out.below B4.out (Nat.le_refl _))
      clear hO hB hAL e T2 A2 HZ HD B2
      generalize nums cs 300 = L at *
      obtain ⟨N, hN⟩ : ∃ N, L.length = N := ⟨_, rfl⟩
      have HN := hid hN
      rw [hN] at hL3 hlc ⊢
      clear hN
      obtain ⟨w4, hw4⟩ : ∃ w4, wr = w4 := ⟨_, rfl⟩
      rw [hw4] at T4 AL B4 Z4 D4 ⊢
      clear hw4
      have hfin : (k < nc ∧ ¬ k < 300) ∨ ¬ k < nc := by omega
      rcases hfin with ⟨f1, f2⟩ | f1
      · have b0 : (k : Int) < (nc : Int) := by omega
        have b1 : ¬ (k : Int) < 300 := by omega
        go_wp2
        go_loopw [11, 12, 13, 14, 15, 16, 17, 18, 19, 20, 21, 22, 23, 24, 25, 26, 27, 28, 29] (fun i _ _ _ _ _ _ _ _ _ _ _ _ _ _ _ _ _ _ w' => ∃ I : Nat, I ≤ 13 ∧ i = .int .i64 (I : Int) ∧ Hid (Below w4.heap.size w4 w')) (fun i _ _ _ _ _ _ _ _ _ _ _ _ _ _ _ _ _ _ _ => 14 - (intOf i).toNat)
        case atStart => exact ⟨0, by omega, rfl, Below.refl _ _⟩
        case round =>
          obtain ⟨I, hI, rfl, hB⟩ := hrel
          by_cases x1 : I + 1 < nd
          · have x1' : (I : Int) + 1 < (nd : Int) := by omega
            by_cases x2 : I < 12
            · have x2' : (I : Int) < 12 := by omega
              by_cases x3 : 0 < N
              · have x3' : (0 : Int) < (N : Int) := by omega
                have hI1d : I + 1 < ds.length := by rw [HDn.out]; exact x1
                have hId : I < ds.length := by rw [HDn.out]; omega
                obtain ⟨y, hy, _, cI⟩ := (D4.out.below hB.out (Nat.le_refl _)) I ds[I] (List.getElem?_eq_getElem hId)
                subst hy
                obtain ⟨y', hy', _, cI1⟩ := (D4.out.below hB.out (Nat.le_refl _)) (I + 1) ds[I + 1] (List.getElem?_eq_getElem hI1d)
                injection hy' with hy'
                subst hy'
                rw [show y.add (I + 1) = ⟨y.block, y.off + (I + 1), none⟩ from by unfold Addr.add; rw [if_neg (by omega)]] at cI1
                have r0 := HI.out ds[I] (List.getElem_mem hId)
                have r1 := HI.out ds[I + 1] (List.getElem_mem hI1d)
                generalize ds[I] = u0 at *
                generalize ds[I + 1] = u1 at *
                obtain ⟨p1, hp1, hp1'⟩ := pk_nat11 u0 N x3
                have k1 := pick_any u0 (N : Int) r0.1 r0.2 (by omega) (by omega) wr
                rw [hp1.out] at k1
                obtain ⟨n, hn⟩ : ∃ n : Nat, n = p1 + 1 := ⟨_, rfl⟩
                have hnw : IntKind.i64.wrap (1 + (p1 : Int)) = (n : Int) := by rw [IntKind.wrap_i64]; omega
                obtain ⟨m, hm, hmn⟩ := pk_nat11 u1 n (by omega)
                have k2 := pick_any u1 (n : Int) r1.1 r1.2 (by omega) (by omega) wr
                rw [hm.out] at k2
                obtain ⟨m1, hm1⟩ : ∃ m1 : Nat, m1 = m + 1 := ⟨_, rfl⟩
                have hmw : IntKind.i64.wrap ((m : Int) + 1) = (m1 : Int) := by rw [IntKind.wrap_i64]; omega
                have hnL : n ≤ L.length := by rw [HN.out]; omega
                obtain ⟨P, Q, R, O, x, ac⟩ := acc_of T4.out Z4.out AL.out (by rw [HN.out]; exact hL3) (by rw [HN.out]; exact hlc) hcl hmn hnL hm1
                have AC := hid ac
                have hnc1 : (0 : Int) ≤ (n : Int) := by omega
                have hnc2 : (n : Int) ≤ (cl : Int) := by omega
                have hmN : (m : Int) < (N : Int) := by omega
                have hm0 : (0 : Int) ≤ (m : Int) := by omega
                have hj0 : (0 : Int) ≤ (I : Int) := by omega
                have hj2 : (I : Int) < (nd : Int) := by omega
                obtain ⟨nP, hnP⟩ : ∃ nP, P.length = nP := ⟨_, rfl⟩
                obtain ⟨nQ, hnQ⟩ : ∃ nQ, Q.length = nQ := ⟨_, rfl⟩
                have hIn : IntKind.i64.wrap ((I : Int) + 2) = ((I + 2 : Nat) : Int) := by rw [IntKind.wrap_i64]; omega
                clear ac hp1 hm hp1' hn hm1 hmn hnL hI1d hId
                go_wp2_with (first
                  | (go_at_call 9; (first | (with_reducible refine k1.mono ?_) | (with_reducible refine k2.mono ?_)); rintro r w5 ⟨rfl, h0⟩; have h0 := h0.symm; subst h0)
                  | (go_at_call 10; fail))
                refine (AC.out.jI _ hB.out).mono ?_
                rintro r wA ⟨gA, rfl, rA, _, bA⟩
                have BA := hid (hB.out.trans (bA.mono hB.out.size))
                have RA := hid rA
                rw [hnP]
                clear rA bA hB k1 k2 cI cI1
                go_wp2_with (go_at_call 16; fail)
                refine (AC.out.jP _ BA.out).mono ?_
                rintro r wB ⟨vB, rfl, oB, bB⟩
                have BB := hid (BA.out.trans (bB.mono BA.out.size))
                have RB := hid (RA.out.below bB RA.out.lt)
                obtain ⟨aB, cB, rfl, hAB, _, _⟩ := Own.at4 oB
                have AB := hid hAB
                rw [hnP]
                clear oB bB hAB RA BA
                go_wp2_with (go_at_call 12; fail)
                refine (AC.out.jC _ BB.out).mono ?_
                rintro r wC ⟨gC, rfl, rC, _, bC⟩
                have BC := hid (BB.out.trans (bC.mono BB.out.size))
                have RC := hid rC
                have RP := hid (RB.out.below bC RB.out.lt)
                have AB2 := hid (AB.out.below bC (Nat.le_refl _))
                rw [hnQ]
                clear rC bC RB AB BB
                go_wp2_with (go_at_call 17; fail)
                refine (AC.out.jQ _ BC.out).mono ?_
                rintro r wD ⟨vD, rfl, oD, bD⟩
                have BD := hid (BC.out.trans (bD.mono BC.out.size))
                have RQ := hid (RC.out.below bD RC.out.lt)
                have RP2 := hid (RP.out.below bD RP.out.lt)
                have AB3 := hid (AB2.out.below bD (Nat.le_refl _))
                obtain ⟨aD, cD, rfl, hAD, _, _⟩ := Own.at4 oD
                have AD := hid hAD
                rw [hnQ]
                have s1 := same_yes P (some ⟨gA, 0, none⟩) aB nP cB wD RP2.out.at AB3.out AC.out.lp
                rw [hnP] at s1
                clear oD bD hAD RC RP AB2 BC
                go_wp2_with (go_at_call 18; fail)
                refine s1.mono ?_
                rintro r wE ⟨rfl, bE, hE⟩
                have BE := hid (BD.out.trans (bE.mono BD.out.size))
                have RQ2 := hid (RQ.out.heap hE)
                have RP3 := hid (RP2.out.heap hE)
                have s2 := same_yes Q (some ⟨gC, 0, none⟩) aD nQ cD wE RQ2.out.at (AD.out.below bE (Nat.le_refl _)) AC.out.lq
                rw [hnQ] at s2
                clear s1 bE hE RQ RP2 BD AB3
                go_wp2_with (go_at_call 18; fail)
                refine s2.mono ?_
                rintro r wF ⟨rfl, bF, hF⟩
                have BF := hid (BE.out.trans (bF.mono BE.out.size))
                have RQ3 := hid (RQ2.out.heap hF)
                have RP4 := hid (RP3.out.heap hF)
                clear s2 bF hF RQ2 RP3 BE AD
                go_wp2_with (go_at_call 19; fail)
                refine (AC.out.jR _ BF.out).mono ?_
                rintro r wG ⟨rfl, bG⟩
                have BG := hid (BF.out.trans (bG.mono BF.out.size))
                have RQ4 := hid (RQ3.out.below bG RQ3.out.lt)
                have RP5 := hid (RP4.out.below bG RP4.out.lt)
                clear bG RQ3 RP4 BF
                go_wp2_with (go_at_call 19; fail)
                refine (AC.out.jO _ BG.out).mono ?_
                rintro r wH ⟨rfl, bH⟩
                have BH := hid (BG.out.trans (bH.mono BG.out.size))
                have RQ5 := hid (RQ4.out.below bH RQ4.out.lt)
                have RP6 := hid (RP5.out.below bH RP5.out.lt)
                obtain ⟨yl, hyl, cm⟩ := AC.out.jx _ BH.out
                have vv := AC.out.jV _ gA BH.out RP6.out.at
                rw [hnP] at vv
                clear bH RQ4 RP5 BG
                subst hyl
                rw [show sv x = .string ⟨x.toArray⟩ from rfl] at cm vv
                go_wp2_with (go_at_call 20; fail)
                refine vv.mono ?_
                rintro r wJ ⟨rfl, bJ⟩
                have BJ := hid (BH.out.trans (bJ.mono BH.out.size))
                have RQ6 := hid (RQ5.out.below bJ RQ5.out.lt)
                have vw := AC.out.jW _ gC BJ.out RQ6.out.at
                rw [hnQ] at vw
                clear bJ RQ5 RP6 BH vv cm
                go_wp2_with (go_at_call 21; fail)
                refine vw.mono ?_
                rintro r wK ⟨rfl, bK⟩
                have BK := hid (BJ.out.trans (bK.mono BJ.out.size))
                clear bK vw RQ6 BJ
                go_wp2
                exact ⟨⟨I + 2, by omega, rfl, BK⟩, by simp [intOf]; omega⟩
              · have x3' : ¬ (0 : Int) < (N : Int) := by omega
                go_wp2
                go_ret
                exact ⟨rfl, B4.out.trans (hB.out.mono B4.out.size)⟩
            · have x2' : ¬ (I : Int) < 12 := by omega
              go_wp2
              go_ret
              exact ⟨rfl, B4.out.trans (hB.out.mono B4.out.size)⟩
          · have x1' : ¬ (I : Int) + 1 < (nd : Int) := by omega
            go_wp2
            go_ret
            exact ⟨rfl, B4.out.trans (hB.out.mono B4.out.size)⟩
      · have b0 : ¬ (k : Int) < (nc : Int) := by omega
        go_wp2
        go_loopw [11, 12, 13, 14, 15, 16, 17, 18, 19, 20, 21, 22, 23, 24, 25, 26, 27, 28, 29] (fun i _ _ _ _ _ _ _ _ _ _ _ _ _ _ _ _ _ _ w' => ∃ I : Nat, I ≤ 13 ∧ i = .int .i64 (I : Int) ∧ Hid (Below w4.heap.size w4 w')) (fun i _ _ _ _ _ _ _ _ _ _ _ _ _ _ _ _ _ _ _ => 14 - (intOf i).toNat)
        case atStart => exact ⟨0, by omega, rfl, Below.refl _ _⟩
        case round =>
          obtain ⟨I, hI, rfl, hB⟩ := hrel
          by_cases x1 : I + 1 < nd
          · have x1' : (I : Int) + 1 < (nd : Int) := by omega
            by_cases x2 : I < 12
            · have x2' : (I : Int) < 12 := by omega
              by_cases x3 : 0 < N
              · have x3' : (0 : Int) < (N : Int) := by omega
                have hI1d : I + 1 < ds.length := by rw [HDn.out]; exact x1
                have hId : I < ds.length := by rw [HDn.out]; omega
                obtain ⟨y, hy, _, cI⟩ := (D4.out.below hB.out (Nat.le_refl _)) I ds[I] (List.getElem?_eq_getElem hId)
                subst hy
                obtain ⟨y', hy', _, cI1⟩ := (D4.out.below hB.out (Nat.le_refl _)) (I + 1) ds[I + 1] (List.getElem?_eq_getElem hI1d)
                injection hy' with hy'
                subst hy'
                rw [show y.add (I + 1) = ⟨y.block, y.off + (I + 1), none⟩ from by unfold Addr.add; rw [if_neg (by omega)]] at cI1
                have r0 := HI.out ds[I] (List.getElem_mem hId)
                have r1 := HI.out ds[I + 1] (List.getElem_mem hI1d)
                generalize ds[I] = u0 at *
                generalize ds[I + 1] = u1 at *
                obtain ⟨p1, hp1, hp1'⟩ := pk_nat11 u0 N x3
                have k1 := pick_any u0 (N : Int) r0.1 r0.2 (by omega) (by omega) wr
                rw [hp1.out] at k1
                obtain ⟨n, hn⟩ : ∃ n : Nat, n = p1 + 1 := ⟨_, rfl⟩
                have hnw : IntKind.i64.wrap (1 + (p1 : Int)) = (n : Int) := by rw [IntKind.wrap_i64]; omega
                obtain ⟨m, hm, hmn⟩ := pk_nat11 u1 n (by omega)
                have k2 := pick_any u1 (n : Int) r1.1 r1.2 (by omega) (by omega) wr
                rw [hm.out] at k2
                obtain ⟨m1, hm1⟩ : ∃ m1 : Nat, m1 = m + 1 := ⟨_, rfl⟩
                have hmw : IntKind.i64.wrap ((m : Int) + 1) = (m1 : Int) := by rw [IntKind.wrap_i64]; omega
                have hnL : n ≤ L.length := by rw [HN.out]; omega
                obtain ⟨P, Q, R, O, x, ac⟩ := acc_of T4.out Z4.out AL.out (by rw [HN.out]; exact hL3) (by rw [HN.out]; exact hlc) hcl hmn hnL hm1
                have AC := hid ac
                have hnc1 : (0 : Int) ≤ (n : Int) := by omega
                have hnc2 : (n : Int) ≤ (cl : Int) := by omega
                have hmN : (m : Int) < (N : Int) := by omega
                have hm0 : (0 : Int) ≤ (m : Int) := by omega
                have hj0 : (0 : Int) ≤ (I : Int) := by omega
                have hj2 : (I : Int) < (nd : Int) := by omega
                obtain ⟨nP, hnP⟩ : ∃ nP, P.length = nP := ⟨_, rfl⟩
                obtain ⟨nQ, hnQ⟩ : ∃ nQ, Q.length = nQ := ⟨_, rfl⟩
                have hIn : IntKind.i64.wrap ((I : Int) + 2) = ((I + 2 : Nat) : Int) := by rw [IntKind.wrap_i64]; omega
                clear ac hp1 hm hp1' hn hm1 hmn hnL hI1d hId
                go_wp2_with (first
                  | (go_at_call 9; (first | (with_reducible refine k1.mono ?_) | (with_reducible refine k2.mono ?_)); rintro r w5 ⟨rfl, h0⟩; have h0 := h0.symm; subst h0)
                  | (go_at_call 10; fail))
                refine (AC.out.jI _ hB.out).mono ?_
                rintro r wA ⟨gA, rfl, rA, _, bA⟩
                have BA := hid (hB.out.trans (bA.mono hB.out.size))
                have RA := hid rA
                rw [hnP]
                clear rA bA hB k1 k2 cI cI1
                go_wp2_with (go_at_call 16; fail)
                refine (AC.out.jP _ BA.out).mono ?_
                rintro r wB ⟨vB, rfl, oB, bB⟩
                have BB := hid (BA.out.trans (bB.mono BA.out.size))
                have RB := hid (RA.out.below bB RA.out.lt)
                obtain ⟨aB, cB, rfl, hAB, _, _⟩ := Own.at4 oB
                have AB := hid hAB
                rw [hnP]
                clear oB bB hAB RA BA
                go_wp2_with (go_at_call 12; fail)
                refine (AC.out.jC _ BB.out).mono ?_
                rintro r wC ⟨gC, rfl, rC, _, bC⟩
                have BC := hid (BB.out.trans (bC.mono BB.out.size))
                have RC := hid rC
                have RP := hid (RB.out.below bC RB.out.lt)
                have AB2 := hid (AB.out.below bC (Nat.le_refl _))
                rw [hnQ]
                clear rC bC RB AB BB
                go_wp2_with (go_at_call 17; fail)
                refine (AC.out.jQ _ BC.out).mono ?_
                rintro r wD ⟨vD, rfl, oD, bD⟩
                have BD := hid (BC.out.trans (bD.mono BC.out.size))
                have RQ := hid (RC.out.below bD RC.out.lt)
                have RP2 := hid (RP.out.below bD RP.out.lt)
                have AB3 := hid (AB2.out.below bD (Nat.le_refl _))
                obtain ⟨aD, cD, rfl, hAD, _, _⟩ := Own.at4 oD
                have AD := hid hAD
                rw [hnQ]
                have s1 := same_yes P (some ⟨gA, 0, none⟩) aB nP cB wD RP2.out.at AB3.out AC.out.lp
                rw [hnP] at s1
                clear oD bD hAD RC RP AB2 BC
                go_wp2_with (go_at_call 18; fail)
                refine s1.mono ?_
                rintro r wE ⟨rfl, bE, hE⟩
                have BE := hid (BD.out.trans (bE.mono BD.out.size))
                have RQ2 := hid (RQ.out.heap hE)
                have RP3 := hid (RP2.out.heap hE)
                have s2 := same_yes Q (some ⟨gC, 0, none⟩) aD nQ cD wE RQ2.out.at (AD.out.below bE (Nat.le_refl _)) AC.out.lq
                rw [hnQ] at s2
                clear s1 bE hE RQ RP2 BD AB3
                go_wp2_with (go_at_call 18; fail)
                refine s2.mono ?_
                rintro r wF ⟨rfl, bF, hF⟩
                have BF := hid (BE.out.trans (bF.mono BE.out.size))
                have RQ3 := hid (RQ2.out.heap hF)
                have RP4 := hid (RP3.out.heap hF)
                clear s2 bF hF RQ2 RP3 BE AD
                go_wp2_with (go_at_call 19; fail)
                refine (AC.out.jR _ BF.out).mono ?_
                rintro r wG ⟨rfl, bG⟩
                have BG := hid (BF.out.trans (bG.mono BF.out.size))
                have RQ4 := hid (RQ3.out.below bG RQ3.out.lt)
                have RP5 := hid (RP4.out.below bG RP4.out.lt)
                clear bG RQ3 RP4 BF
                go_wp2_with (go_at_call 19; fail)
                refine (AC.out.jO _ BG.out).mono ?_
                rintro r wH ⟨rfl, bH⟩
                have BH := hid (BG.out.trans (bH.mono BG.out.size))
                have RQ5 := hid (RQ4.out.below bH RQ4.out.lt)
                have RP6 := hid (RP5.out.below bH RP5.out.lt)
                obtain ⟨yl, hyl, cm⟩ := AC.out.jx _ BH.out
                have vv := AC.out.jV _ gA BH.out RP6.out.at
                rw [hnP] at vv
                clear bH RQ4 RP5 BG
                subst hyl
                rw [show sv x = .string ⟨x.toArray⟩ from rfl] at cm vv
                go_wp2_with (go_at_call 20; fail)
                refine vv.mono ?_
                rintro r wJ ⟨rfl, bJ⟩
                have BJ := hid (BH.out.trans (bJ.mono BH.out.size))
                have RQ6 := hid (RQ5.out.below bJ RQ5.out.lt)
                have vw := AC.out.jW _ gC BJ.out RQ6.out.at
                rw [hnQ] at vw
                clear bJ RQ5 RP6 BH vv cm
                go_wp2_with (go_at_call 21; fail)
                refine vw.mono ?_
                rintro r wK ⟨rfl, bK⟩
                have BK := hid (BJ.out.trans (bK.mono BJ.out.size))
                clear bK vw RQ6 BJ
                go_wp2
                exact ⟨⟨I + 2, by omega, rfl, BK⟩, by simp [intOf]; omega⟩
              · have x3' : ¬ (0 : Int) < (N : Int) := by omega
                go_wp2
                go_ret
                exact ⟨rfl, B4.out.trans (hB.out.mono B4.out.size)⟩
            · have x2' : ¬ (I : Int) < 12 := by omega
              go_wp2
              go_ret
              exact ⟨rfl, B4.out.trans (hB.out.mono B4.out.size)⟩
          · have x1' : ¬ (I : Int) + 1 < (nd : Int) := by omega
            go_wp2
            go_ret
            exact ⟨rfl, B4.out.trans (hB.out.mono B4.out.size)⟩
end Go.Proofs.YtkiibcfjjplkaaaDoor
