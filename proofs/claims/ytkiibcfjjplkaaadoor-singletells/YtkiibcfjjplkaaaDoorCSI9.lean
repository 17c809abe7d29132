import Derived.Test.YtkiibcfjjplkaaaDoorCSI8
import Derived.Test.YtkiibcfjjplkaaaDoorCSI1
namespace Go.Proofs.YtkiibcfjjplkaaaDoor
open Go.RowKit Go.Shelf
def lj (L : List (List UInt8)) (r : List UInt8) (J : Nat) : List (List UInt8) := if J ≤ 4 then L else L ++ [r]
theorem lj_low {L : List (List UInt8)} {r : List UInt8} {J : Nat} (h : J ≤ 4) : lj L r J = L := if_pos h
theorem lj_five (L : List (List UInt8)) (r : List UInt8) : lj L r 5 = L ++ [r] := if_neg (by omega)
/-- which number is asked -/
def ask (two three : Int) (J : Nat) : Int := if J = 2 then three else two
theorem ask_at (two three : Int) {J : Nat} (hJ : J < 5) : (#[.int .i64 two, .int .i64 two, .int .i64 three, .int .i64 two, .int .i64 two] : Array Value)[J]? = some (.int .i64 (ask two three J)) := by
  rcases J with _ | _ | _ | _ | _ | J
  · rfl
  · rfl
  · rfl
  · rfl
  · rfl
  · omega
def r5 (ρ : Nat → Nat) (s0 sB sC c : Nat) : Nat → Nat := fun k => if k < s0 then ρ k else if k < sB then 0 else if k < sC then 5 + c else 5 + (c + 1)
def ro (s1 s2 s4 : Nat) : Nat → Nat := fun k => if k < s1 then 0 else if k < s2 then 1 else if k < s4 then 2 else 0
theorem OwnM.at1 {w : World} {a : Option Addr} {n c : Nat} {l : List (List UInt8)} (h : OwnM 1 w (.slice a n c) n (svs l)) : At w a l := fun j p hp => by
  obtain ⟨g, cap, e, h1, h2⟩ := h.cell (show (svs l)[j]? = some (sv p) by simp [svs, hp])
  injection e with e _ _
  exact ⟨_, e, h2, by rw [Addr.add_mid, Nat.zero_add]; exact h1⟩
theorem OwnM.some11 {m : Nat} {w : World} {v : Value} {n : Nat} {cs : List Value} (h : OwnM m w v n cs) (hn : 0 < n) : ∃ g c, v = .slice (some ⟨g, 0, none⟩) n c ∧ n ≤ c ∧ w.rangeAt g 0 cs ∧ g < w.heap.size := by
  rcases h with ⟨_, rfl, _⟩ | ⟨g, c, rfl, h1, h2, h3, h4, h5, h6⟩
  · omega
  · exact ⟨g, c, rfl, h1, h4, h6⟩
theorem path_few {L : List (List UInt8)} (hL : L.length ≤ 1000) (n i : Int) : (incL L n i).length ≤ 2000000 := by
  unfold incL
  split
  · next h =>
    unfold incE at h
    split at h
    · split at h
      · have := pthF_short n.toNat 0 n.toNat i.toNat
        rw [← hsh_path L (show i.toNat < n.toNat by omega) (show n.toNat ≤ L.length by omega), hsh_len]
        omega
      · cases h
    · cases h
  · simp
theorem proof_few {L : List (List UInt8)} (hL : L.length ≤ 1000) (m n : Int) : (conL L m n).length ≤ 2000000 := by
  unfold conL
  split
  · next h =>
    unfold conE at h
    split at h
    · have := prfF_short n.toNat 0 n.toNat m.toNat
      rw [← hsh_proof L (show 1 ≤ m.toNat by omega) (show m.toNat ≤ n.toNat by omega) (show n.toNat ≤ L.length by omega), hsh_len]
      omega
    · cases h
  · simp
set_option maxRecDepth 100000 in
set_option maxHeartbeats 4000000 in
theorem tells11_law (ht one two three more : Int) (cs : List Int) (a : Option Addr) (ca : Nat) (w : World) (h1 : -9223372036854775808 ≤ ht) (h2 : ht ≤ 9223372036854775807) (hcs : cs.length ≤ 9223372036854775807) (hA : AtI w a cs) (Z : Tb w) :
    Calls Tryd.prog 5 #[.int .i64 ht, .slice a cs.length ca, .int .i64 one, .int .i64 two, .int .i64 three, .int .i64 more] w fun e w' => e = .returned (.bool true) ∧ Below w.heap.size w w' := by
  have i0 := known11_any w Z
  have HZ := hid Z
  have hT := Z.lt
  have HA := hid hA
  have j1 := fun w' (hb : Below w.heap.size w w') => filled11_any ht cs a ca w' h1 h2 hcs (hA.below hb (Nat.le_refl _)) (Z.below hb Z.lt)
  obtain ⟨nc, hnc⟩ : ∃ nc, cs.length = nc := ⟨_, rfl⟩
  rw [hnc] at j1 hcs ⊢
  have HC := hid hnc
  clear hA Z hnc
  go_enter Tryd.func5, Tryd.ntmps5
  go_wp2_with (first
    | (go_at_call 6; refine i0.mono ?_; rintro r w1 ⟨rfl, b1⟩; have B1 := hid b1; clear b1 i0)
    | (go_at_call 7; fail))
  refine (j1 _ B1.out).mono ?_
  rintro r w2 ⟨q, h, F, rfl, _, t2, f2, b2⟩
  have B2 := hid (B1.out.trans (b2.mono B1.out.size))
  have T2 := hid t2
  have F2 := hid f2
  have A2 := hid (HA.out.below B2.out (Nat.le_refl _))
  have s12 := b2.size
  have hs01 := B1.out.size
  have new := rNew_any 1 (by omega) (by omega) w2 (by have := B2.out.size; omega)
  rw [show ((1 : Nat) : Int) = 1 from rfl] at new
  clear j1 b2 t2 f2 HA
  go_wp2_with (go_at_call 22; fail)
  refine new.mono ?_
  rintro r w3 ⟨qx, Fx, rfl, x3, fx3, b3⟩
  have X3 := hid x3
  have FX3 := hid fx3
  have B3 := hid b3
  clear new x3 fx3 b3
  go_wp2
  go_loopw [17] (fun i w' => ∃ (k : Nat) (Fx : Nat → Prop), k ≤ nc ∧ k ≤ 300 ∧ i = .int .i64 (k : Int) ∧ Hid (RtL w' qx 1 (nums cs k) Fx) ∧ Hid (∀ k, Fx k → w2.heap.size ≤ k) ∧ Hid (Below w2.heap.size w2 w')) (fun i _ => 300 - (intOf i).toNat)
  case atStart => exact ⟨0, Fx, by omega, by omega, rfl, X3, FX3, B3⟩
  case round =>
    clear X3 FX3 B3
    obtain ⟨k, Fx, hk, hkM, rfl, hX, hFx, hB⟩ := hrel
    by_cases hkn : k < nc ∧ k < 300
    · obtain ⟨g1, g2⟩ := hkn
      have b0 : (k : Int) < (nc : Int) := by omega
      have b1 : (k : Int) < 300 := by omega
      have hkc : k < cs.length := by rw [HC.out]; exact g1
      obtain ⟨y, rfl, _, hy⟩ := (A2.out.below hB.out (Nat.le_refl _)) k cs[k] (List.getElem?_eq_getElem hkc)
      have hnx := hid (nums_succ cs k hkc)
      have hl := nums_len cs k
      generalize cs[k] = c at *
      obtain ⟨r, hr⟩ : ∃ r, Hid (lf c = r) := ⟨_, rfl⟩
      have lr : r.length = 32 := by rw [← hr.out, lf_length]
      rw [hr.out] at hnx
      go_wp2_with (go_at_call 15; fail)
      refine (lleaf_at c r hr _).mono ?_
      rintro e w5 ⟨rfl, hw5⟩
      have B5 := hid (hB.out.trans (hw5.mono hB.out.size))
      have add := rAdd_any (hX.out.below hw5) r lr (by rw [hl]; omega) (by have := B2.out.size; have := B5.out.size; omega)
      rw [← hnx.out] at add
      clear hw5 hB hX hnx hl
      go_wp2_with (go_at_call 23; fail)
      refine add.mono ?_
      rintro e w6 ⟨rfl, F6, X6, M6⟩
      obtain ⟨b6, f6⟩ := M6.below (B := w2.heap.size) B5.out.size hFx.out
      have B6 := hid (B5.out.trans b6)
      have X6 := hid X6
      have f6 := hid f6
      clear b6 M6 add
      go_wp2
      exact ⟨⟨k + 1, F6, by omega, by omega, by go_num, X6, f6, B6⟩, by simp [intOf]; omega⟩
    · have e : nums cs k = nums cs 300 := by
        have := HC.out
        by_cases h : k < nc
        · rw [show k = 300 from by omega]
        · rw [nums, nums, List.take_of_length_le (by omega), List.take_of_length_le (by omega)]
      rw [e] at hX
      have hL3 := nums_most cs 300
      have T4 := hid (T2.out.below hB.out)
      have B4 := hid (B2.out.trans (hB.out.mono B2.out.size))
      obtain ⟨w4, hw4⟩ : ∃ w4, wr = w4 := ⟨_, rfl⟩
      rw [hw4] at hX hB T4 B4 ⊢
      have s24 := hB.out.size
      have Flt := hid (fun k hk => T2.out.lt k hk)
      clear hw4 e T2 A2
      generalize nums cs 300 = L at *
      obtain ⟨r, hr⟩ : ∃ r, Hid (lf more = r) := ⟨_, rfl⟩
      have lr : r.length = 32 := by rw [← hr.out, lf_length]
      have tk0 : Hid (Tk w.heap.size w q h qx w4.heap.size #[.int .i64 two, .int .i64 two, .int .i64 three, .int .i64 two, .int .i64 two] (lj L r 0) (lj L r 0) (ro w1.heap.size w2.heap.size w4.heap.size) (w4.alloc (.cells #[.int .i64 two, .int .i64 two, .int .i64 three, .int .i64 two, .int .i64 two] 3)) (.slice none 0 0) [] (.slice none 0 0) [] []) := by
        have hb := (Below.refl w4.heap.size w4).alloc (Nat.le_refl _) (.cells #[.int .i64 two, .int .i64 two, .int .i64 three, .int .i64 two, .int .i64 two] 3)
        rw [lj_low (Nat.zero_le _)]
        constructor
        case bel => exact B4.out.trans (hb.mono B4.out.size)
        case low => exact fun k hk => if_pos (by omega)
        case tr => exact ⟨F, T4.out.below hb, fun k hk => by
          have a1 := F2.out k hk
          have a2 := Flt.out k hk
          unfold ro; rw [if_neg (by omega), if_pos (by omega)]⟩
        case rt => exact ⟨Fx, hX.out.below hb, fun k hk => by
          have a1 := hFx.out k hk
          have a2 := hX.out.lt k hk
          unfold ro; rw [if_neg (by omega), if_neg (by omega), if_pos (by omega)]⟩
        case ak => exact heap_alloc_new w4 _
        case ra => unfold ro; rw [if_neg (by omega), if_neg (by omega), if_neg (by omega)]
        case ol => exact OwnM.nil 1 _
        case rl => exact fun k hk => by cases hk
        case ow => exact OwnM.nil 1 _
        case rw_ => exact fun k hk => by cases hk
        case l1 => rfl
        case l2 => rfl
        case own => exact fun j l e => by cases e
        case want => exact fun j l e => by cases e
      have hB0 : w.heap.size ≤ w.heap.size := Nat.le_refl _
      have ZW := hid (fun w' (hb : Below w.heap.size w w') => HZ.out.below hb hT)
      clear hX hFx hB T4 B4 Flt F2 B1 B2 HZ
      have hfin : (k < nc ∧ ¬ k < 300) ∨ ¬ k < nc := by omega
      rcases hfin with ⟨f1, f2⟩ | f1
      · have b0 : (k : Int) < (nc : Int) := by omega
        have b1 : ¬ (k : Int) < 300 := by omega
        go_wp2
        generalize w4.alloc (.cells #[.int .i64 two, .int .i64 two, .int .i64 three, .int .i64 two, .int .i64 two] 3) = w5 at *
        generalize ro w1.heap.size w2.heap.size w4.heap.size = ρ0 at *
        generalize w4.heap.size = ga at *
        go_loopw [19, 20, 21, 22, 23, 24, 25, 26, 27, 28, 29, 30, 31] (fun vl vw i _ _ _ _ _ _ _ _ _ _ w' => ∃ (J : Nat) (ρ : Nat → Nat) (ls ws : List Value) (R : List (List (List UInt8))), J ≤ 5 ∧ i = .int .i64 (J : Int) ∧ R.length = 2 * J ∧ Hid (Tk w.heap.size w q h qx ga #[.int .i64 two, .int .i64 two, .int .i64 three, .int .i64 two, .int .i64 two] (lj L r J) (lj L r J) ρ w' vl ls vw ws R) ∧ Hid (∀ l ∈ R, l.length ≤ 2000000)) (fun _ _ i _ _ _ _ _ _ _ _ _ _ _ => 5 - (intOf i).toNat)
        case atStart => exact ⟨0, _, [], [], [], by omega, rfl, rfl, tk0, hid (fun l hl => by cases hl)⟩
        case round =>
          clear tk0
          obtain ⟨J, ρ, ls, ws, R, hJ, rfl, hRl, hTk, hR⟩ := hrel
          by_cases hJ5 : J < 5
          · have b2 : (J : Int) < 5 := by omega
            have j0 : (0 : Int) ≤ (J : Int) := by omega
            obtain ⟨la, lc, hle, _, _⟩ := hTk.out.ol.shape
            obtain ⟨wa, wc', hwe, _, _⟩ := hTk.out.ow.shape
            subst hle
            subst hwe
            rw [show ls.length = 2 * J from hTk.out.l1.trans hRl, show ws.length = 2 * J from hTk.out.l2.trans hRl] at hTk ⊢
            go_upto_if 83 with fail
            go_cut [22, 23] from 76 to 155 (fun _ _ w' => ∃ ρ' : Nat → Nat, Hid (Tk w.heap.size w q h qx ga #[.int .i64 two, .int .i64 two, .int .i64 three, .int .i64 two, .int .i64 two] (lj L r (J + 1)) (lj L r (J + 1)) ρ' w' (.slice la (2 * J) lc) ls (.slice wa (2 * J) wc') ws R))
            case first =>
              by_cases hJ4 : J = 4
              · subst hJ4
                rw [lj_low (Nat.le_refl _)] at hTk
                go_wp2_with (go_at_call 15; fail)
                refine (lleaf_at more r hr _).mono ?_
                rintro e w6 ⟨rfl, hw6⟩
                have t6 := hTk.out.below hB0 hw6 (rx ρ wr 0) (fun k hk => rx_old hk)
                obtain ⟨G, g1, g2⟩ := t6.tr
                have add := tAdd_any g1 r lr (by omega) (ZW.out _ t6.bel)
                have T6 := hid t6
                clear hTk hw6 t6
                go_wp2_with (go_at_call 24; fail)
                refine add.mono ?_
                rintro e w7 ⟨rfl, F7, X7, M7⟩
                have T7 := hid (T6.out.addT hB0 g1 g2 X7 M7)
                clear add X7 M7 T6 g1 g2
                go_wp2_with (go_at_call 15; fail)
                refine (lleaf_at more r hr _).mono ?_
                rintro e w8 ⟨rfl, hw8⟩
                have t8 := T7.out.below hB0 hw8 (rx _ w7 0) (fun k hk => rx_old hk)
                obtain ⟨G', g1, g2⟩ := t8.rt
                have add := rAdd_any g1 r lr (by omega) (by have := (ZW.out _ t8.bel).lt; omega)
                have T8 := hid t8
                clear T7 hw8 t8
                go_wp2_with (go_at_call 23; fail)
                refine add.mono ?_
                rintro e w9 ⟨rfl, F9, X9, M9⟩
                have T9 := hid (T8.out.addX hB0 g1 g2 X9 M9)
                clear add X9 M9 T8 g1 g2
                go_wp2
                go_meet
                exact ⟨_, by rw [show 4 + 1 = 5 from rfl, lj_five]; exact T9⟩
              · have n4 : ¬ (J : Int) = 4 := by omega
                rw [lj_low (by omega)] at hTk
                go_wp2
                go_meet
                exact ⟨ρ, by rw [lj_low (by omega)]; exact hTk⟩
            case rest =>
              obtain ⟨ρ1, hT1⟩ := hcut
              obtain ⟨wS, hwS⟩ : ∃ wS, wc = wS := ⟨_, rfl⟩
              rw [hwS] at hT1 ⊢
              clear hwS hTk
              have hLL : (lj L r (J + 1)).length ≤ 1000 := by
                unfold lj
                split
                · omega
                · rw [List.length_append]; simp; omega
              obtain ⟨LC, hLC⟩ : ∃ LC, lj L r (J + 1) = LC := ⟨_, rfl⟩
              have HLC := hid hLC
              rw [hLC] at hLL hT1
              clear hLC
              have cJ : wS.cell? ⟨ga, J, none⟩ = some (.int .i64 (ask two three J)) := by rw [cell_of_row _ _ _ _ _ _ hT1.out.ak]; exact ask_at two three hJ5
              have lga : ga < wS.heap.size := lt_of_heap hT1.out.ak
              generalize ask two three J = aj at *
              obtain ⟨G, g1, g2⟩ := hT1.out.rt
              obtain ⟨G', g1', g2'⟩ := hT1.out.tr
              have X1 := hid g1
              have T1 := hid g1'
              have ZS := hid (ZW.out _ hT1.out.bel)
              have hP := hid (path_few hLL one aj)
              have hQ := hid (proof_few hLL one aj)
              have iA := rInc11_any X1.out one aj
              have iB := fun w' (hb : Below wS.heap.size wS w') => rCon11_any (X1.out.below hb) one aj
              have iC := fun w' (hb : Below wS.heap.size wS w') => inc11_any (T1.out.below hb) (ZS.out.below hb ZS.out.lt) one aj
              have iD := fun w' (hb : Below wS.heap.size wS w') => con11_any (T1.out.below hb) (ZS.out.below hb ZS.out.lt) one aj
              generalize incL LC one aj = A at *
              generalize conL LC one aj = B at *
              generalize incE LC one aj = E1 at *
              generalize conE LC one aj = E2 at *
              clear g1 g2 g1' g2'
              go_wp2_with (go_at_call 25; fail)
              refine iA.mono ?_
              rintro e wA ⟨vA, rfl, oA, bA⟩
              obtain ⟨oA1, fA⟩ := oA.ownM1
              rw [svs_length] at oA1
              have OA := hid oA1
              have FA := hid fA
              have BA := hid bA
              have cA := (bA.cell (p := ⟨ga, J, none⟩) lga).trans cJ
              have lA : ga < wA.heap.size := block_lt_of_cell cA
              clear iA oA oA1 fA bA cJ
              go_wp2_with (go_at_call 26; fail)
              refine (iB _ BA.out).mono ?_
              rintro e wB ⟨vB, rfl, oB, bB⟩
              obtain ⟨oB1, fB⟩ := oB.ownM1
              rw [svs_length] at oB1
              have OB := hid oB1
              have FB := hid fB
              have BB := hid (BA.out.trans (bB.mono BA.out.size))
              have OA2 := hid (OA.out.below bB)
              have sAB := bB.size
              have cB := (bB.cell (p := ⟨ga, J, none⟩) lA).trans cA
              have lB : ga < wB.heap.size := block_lt_of_cell cB
              clear iB oB oB1 fB bB cA lA
              go_wp2_with (go_at_call 10; fail)
              refine (iC _ BB.out).mono ?_
              rintro e wC ⟨vC, rfl, oC, fC, bC⟩
              have OC := hid oC
              have FC := hid fC
              have BC := hid (BB.out.trans (bC.mono BB.out.size))
              have OA3 := hid (OA2.out.below bC)
              have OB2 := hid (OB.out.below bC)
              have sBC := bC.size
              have cC := (bC.cell (p := ⟨ga, J, none⟩) lB).trans cB
              have lC : ga < wC.heap.size := block_lt_of_cell cC
              clear iC oC fC bC cB lB
              go_wp2_with (go_at_call 12; fail)
              refine (iD _ BC.out).mono ?_
              rintro e wD ⟨vD, rfl, oD, fD, bD⟩
              have OD := hid oD
              have BD := hid (BC.out.trans (bD.mono BC.out.size))
              have sCD := bD.size
              have s0A := BA.out.size
              have tD := hT1.out.below hB0 BD.out (r5 ρ1 wS.heap.size wB.heap.size wC.heap.size R.length) (fun k hk => if_pos hk)
              have rC : ∀ k, vC.ownBlock = some k → r5 ρ1 wS.heap.size wB.heap.size wC.heap.size R.length k = 5 + R.length := fun k hk => by
                have := FC.out k hk; have := OC.out.lt k hk
                unfold r5; rw [if_neg (by omega), if_neg (by omega), if_pos (by omega)]
              have rD : ∀ k, vD.ownBlock = some k → r5 ρ1 wS.heap.size wB.heap.size wC.heap.size R.length k = 5 + (R.length + 1) := fun k hk => by
                have := fD k hk
                unfold r5; rw [if_neg (by omega), if_neg (by omega), if_neg (by omega)]
              have rA : ∀ k, vA.ownBlock = some k → r5 ρ1 wS.heap.size wB.heap.size wC.heap.size R.length k = 0 := fun k hk => by
                have := FA.out k hk; have := OA.out.lt k hk
                unfold r5; rw [if_neg (by omega), if_pos (by omega)]
              have rB : ∀ k, vB.ownBlock = some k → r5 ρ1 wS.heap.size wB.heap.size wC.heap.size R.length k = 0 := fun k hk => by
                have := FB.out k hk; have := OB.out.lt k hk
                unfold r5; rw [if_neg (by omega), if_pos (by omega)]
              generalize r5 ρ1 wS.heap.size wB.heap.size wC.heap.size R.length = ρ2 at *
              obtain ⟨aA, kA, eA, _, _⟩ := OA.out.shape
              obtain ⟨aB, kB, eB, _, _⟩ := OB.out.shape
              obtain ⟨aC, kC, eC, _, _⟩ := OC.out.shape
              obtain ⟨aD, kD, eD, _, _⟩ := oD.shape
              subst eA
              subst eB
              subst eC
              subst eD
              have hls : ls.length = 2 * J := hT1.out.l1.trans hRl
              have hws : ws.length = 2 * J := hT1.out.l2.trans hRl
              have olD := tD.ol
              have owD := tD.ow
              obtain ⟨vl2, wE, hap1, o1, g1⟩ := append_tx2 wD (.slice la (2 * J) lc) ls aC A.length kC aD B.length kD olD (by omega)
              have ow1 : OwnM 1 wE (.slice wa (2 * J) wc') ws.length ws := owD.kept g1.size (fun k hk => g1.old k (owD.lt k hk) (fun e => by have x := tD.rl k e; have y := tD.rw_ k hk; omega))
              obtain ⟨vw2, wG, hap2, o2, g2⟩ := append_tx2 wE (.slice wa (2 * J) wc') ws aA A.length kA aB B.length kB ow1 (by omega)
              have TP := hid (tD.push hB0 (OC.out.below bD) rC oD rD (OA3.out.below bD) rA (OB2.out.below bD) rB g1 o1 g2 o2)
              have z1 : (E1 == E1) = true := by simp
              have z2 : (E2 == E2) = true := by simp
              obtain ⟨nA, hnA⟩ : ∃ nA, A.length = nA := ⟨_, rfl⟩
              obtain ⟨nB, hnB⟩ : ∃ nB, B.length = nB := ⟨_, rfl⟩
              rw [hnA, hnB] at hap1 hap2
              rw [hnA, hnB]
              clear iD oD fD bD cC lC tD rA rB rC rD OA OB OC OD OA2 OA3 OB2 FA FB FC BA BB BC BD X1 T1 ZS hT1 olD owD ow1 o1 o2 g1 g2
              go_wp2_with (first
                | (at_builtin; refine Lib.wpList_append_run _ rfl _ _ 51 51 rfl _ _ rfl rfl _ _ hap1 ?_; clear hap1)
                | (at_builtin; refine Lib.wpList_append_run _ rfl _ _ 51 51 rfl _ _ rfl rfl _ _ hap2 ?_; clear hap2))
              rw [hnA, hnB] at TP
              exact ⟨⟨J + 1, _, _, _, R ++ [A, B], by omega, by go_num, by rw [List.length_append, hRl]; rfl, by rw [HLC.out]; exact TP, hid (fun l hl => by
                rcases List.mem_append.1 hl with hl | hl
                · exact hR.out l hl
                · simp only [List.mem_cons, List.not_mem_nil, or_false] at hl
                  rcases hl with rfl | rfl
                  · exact hP.out
                  · exact hQ.out)⟩, by simp [intOf]; omega⟩
          · obtain rfl : J = 5 := by omega
            rw [show ((5 : Nat) : Int) = 5 from rfl]
            rw [lj_five] at hTk
            have hls : ls.length = 10 := hTk.out.l1.trans hRl
            have hws : ws.length = 10 := hTk.out.l2.trans hRl
            obtain ⟨gl, cl, hle, _, _, _⟩ := hTk.out.ol.some11 (by omega)
            obtain ⟨gw, cw, hwe, _, _, _⟩ := hTk.out.ow.some11 (by omega)
            rw [hle, hwe] at hTk ⊢
            rw [hls, hws] at hTk ⊢
            have hls2 := hid hls
            clear hle hwe hls hws
            obtain ⟨wE, hwE⟩ : ∃ wE, wr = wE := ⟨_, rfl⟩
            rw [hwE] at hTk ⊢
            clear hwE
            go_wp2
            go_loopw [32, 33] (fun i _ w' => ∃ T : Nat, T ≤ 10 ∧ i = .int .i64 (T : Int) ∧ Hid (Below wE.heap.size wE w')) (fun i _ _ => 10 - (intOf i).toNat)
            case atStart => exact ⟨0, by omega, rfl, Below.refl _ _⟩
            case round =>
              obtain ⟨T, hT10, rfl, hB⟩ := hrel
              by_cases hTl : T < 10
              · have b3 : (T : Int) < 10 := by omega
                have t0 : (0 : Int) ≤ (T : Int) := by omega
                obtain ⟨l, hl⟩ : ∃ l, R[T]? = some l := ⟨_, List.getElem?_eq_getElem (by rw [hRl]; omega)⟩
                have hll := hR.out l (List.mem_of_getElem? hl)
                obtain ⟨v, e1, o1, _⟩ := hTk.out.own T l hl
                obtain ⟨u, e2, o2, _⟩ := hTk.out.want T l hl
                obtain ⟨g1, k1, f1, d1, la1⟩ := hTk.out.ol.cell e1
                obtain ⟨g2, k2, f2, d2, la2⟩ := hTk.out.ow.cell e2
                injection f1 with f1 f1' f1''
                clear f1' f1''
                injection f1 with f1
                injection f1 with f1
                subst f1
                injection f2 with f2 f2' f2''
                clear f2' f2''
                injection f2 with f2
                injection f2 with f2
                subst f2
                obtain ⟨a1, c1, es1, _, _⟩ := o1.shape
                obtain ⟨a2, c2, es2, _, _⟩ := o2.shape
                subst es1
                subst es2
                have x1 := (hB.out.cell (p := ⟨gl, T, none⟩) la1).trans d1
                have x2 := (hB.out.cell (p := ⟨gw, T, none⟩) la2).trans d2
                have l1 : gl < wr.heap.size := block_lt_of_cell x1
                have l2 : gw < wr.heap.size := block_lt_of_cell x2
                have hs := same_yes l a1 a2 c1 c2 wr.drew (show At wr a1 l from (o1.below hB.out).at1) (show At wr a2 l from (o2.below hB.out).at1) (by omega)
                obtain ⟨n, hn⟩ : ∃ n, l.length = n := ⟨_, rfl⟩
                rw [hn] at hs x1 x2
                clear o1 o2 d1 d2 e1 e2 hl la1 la2
                go_wp2
                go_region_held3 (fun w' => w'.cell? ⟨gl, T, none⟩ = some (.slice a1 n c1) ∧ w'.cell? ⟨gw, T, none⟩ = some (.slice a2 n c2)) (first | exact e4 | exact ⟨x1, x2⟩)
                  (first | (go_at_call 18; (with_reducible refine hs.mono ?_); rintro e w2 ⟨rfl, hw2', _⟩; have hw2 := drewBelow11 hw2'; have e4 := And.intro ((hw2.cell (p := ⟨gl, T, none⟩) l1).trans x1) ((hw2.cell (p := ⟨gw, T, none⟩) l2).trans x2)))
                all_goals
                  have HB2 := hid (hB.out.trans (hw2.mono hB.out.size))
                  clear hw2 hw2' e4 hs
                  go_wp2
                  exact ⟨⟨T + 1, by omega, by go_num, HB2⟩, by simp [intOf]; omega⟩
              · obtain rfl : T = 10 := by omega
                have b3 : ¬ (10 : Int) < 10 := by omega
                have tF := hTk.out.below hB0 hB.out (rx ρ wE 0) (fun k hk => rx_old hk)
                have oF := Tk.toOw (gl := gl) (cl := cl) (ls := ls) (by rw [hls2.out]; exact tF)
                have own := owned11_any _ wr gl 10 cl ls _ _ oF hls2.out (by omega) (fun j => by
                  rw [svs_length]
                  by_cases hj : j < R.length
                  · rw [show R.getD j [] = R[j] from by simp [List.getD, hj]]; exact hR.out _ (List.getElem_mem hj)
                  · rw [show R.getD j [] = [] from by simp [List.getD, hj]]; simp)
                have TF := hid tF
                clear oF tF hTk hB
                go_wp2_with (go_at_call 27; fail)
                refine own.mono ?_
                rintro e wO ⟨rfl, kO⟩
                obtain ⟨F1, f1, f2⟩ := TF.out.tr
                obtain ⟨F2, f3, f4⟩ := TF.out.rt
                have TO := hid (f1.keep kO (fun k hk e => by have := f2 k hk; omega))
                have XO := hid (f3.keep kO (fun k hk e => by have := f4 k hk; omega))
                have BO := hid (show Below w.heap.size w wO from TF.out.bel.trans ⟨kO.os, kO.tape, kO.output, kO.size, fun k hk => kO.block k (by have := TF.out.bel.size; omega) (by rw [TF.out.low k hk]; omega)⟩)
                have ZO := ZW.out _ BO.out
                generalize L ++ [r] = LL at *
                have i1 := tSizeL TO.out
                have i2 := tRoot_any TO.out (LL.length : Int) ZO (hid tPartO_all)
                have i3 := fun w' (hb : Below wO.heap.size wO w') => rSizeL (XO.out.below hb)
                have i4 := fun w' (hb : Below wO.heap.size wO w') => rRoot7_any (XO.out.below hb) (LL.length : Int) (hid tPartO_all)
                generalize Tree.root LL = rt at *
                generalize LL.length = nl at *
                simp only [show sv rt = Value.string ⟨rt.toArray⟩ from rfl] at i2 i4
                have hrr : ((ByteArray.mk rt.toArray).toList == (ByteArray.mk rt.toArray).toList) = true := by simp
                clear own kO f1 f2 f3 f4 TO XO TF ZO
                go_wp2_with (first
                  | (go_at_call 8; refine i1.mono ?_; rintro e w' ⟨rfl, h0⟩; have h0 := h0.symm; subst h0)
                  | (go_at_call 19; refine i2.mono ?_; rintro e wP ⟨rfl, bP⟩; have BP := hid bP; clear bP)
                  | (go_at_call 29; refine (i3 _ BP.out).mono ?_; rintro e w' ⟨rfl, h0⟩; have h0 := h0.symm; subst h0)
                  | (go_at_call 28; refine (i4 _ BP.out).mono ?_; rintro e wQ ⟨rfl, bQ⟩; have BQ := hid bQ; clear bQ))
                go_ret
                exact ⟨rfl, BO.out.trans ((BP.out.trans (BQ.out.mono BP.out.size)).mono BO.out.size)⟩
      · have b0 : ¬ (k : Int) < (nc : Int) := by omega
        go_wp2
        generalize w4.alloc (.cells #[.int .i64 two, .int .i64 two, .int .i64 three, .int .i64 two, .int .i64 two] 3) = w5 at *
        generalize ro w1.heap.size w2.heap.size w4.heap.size = ρ0 at *
        generalize w4.heap.size = ga at *
        go_loopw [19, 20, 21, 22, 23, 24, 25, 26, 27, 28, 29, 30, 31] (fun vl vw i _ _ _ _ _ _ _ _ _ _ w' => ∃ (J : Nat) (ρ : Nat → Nat) (ls ws : List Value) (R : List (List (List UInt8))), J ≤ 5 ∧ i = .int .i64 (J : Int) ∧ R.length = 2 * J ∧ Hid (Tk w.heap.size w q h qx ga #[.int .i64 two, .int .i64 two, .int .i64 three, .int .i64 two, .int .i64 two] (lj L r J) (lj L r J) ρ w' vl ls vw ws R) ∧ Hid (∀ l ∈ R, l.length ≤ 2000000)) (fun _ _ i _ _ _ _ _ _ _ _ _ _ _ => 5 - (intOf i).toNat)
        case atStart => exact ⟨0, _, [], [], [], by omega, rfl, rfl, tk0, hid (fun l hl => by cases hl)⟩
        case round =>
          clear tk0
          obtain ⟨J, ρ, ls, ws, R, hJ, rfl, hRl, hTk, hR⟩ := hrel
          by_cases hJ5 : J < 5
          · have b2 : (J : Int) < 5 := by omega
            have j0 : (0 : Int) ≤ (J : Int) := by omega
            obtain ⟨la, lc, hle, _, _⟩ := hTk.out.ol.shape
            obtain ⟨wa, wc', hwe, _, _⟩ := hTk.out.ow.shape
            subst hle
            subst hwe
            rw [show ls.length = 2 * J from hTk.out.l1.trans hRl, show ws.length = 2 * J from hTk.out.l2.trans hRl] at hTk ⊢
            go_upto_if 83 with fail
            go_cut [22, 23] from 76 to 155 (fun _ _ w' => ∃ ρ' : Nat → Nat, Hid (Tk w.heap.size w q h qx ga #[.int .i64 two, .int .i64 two, .int .i64 three, .int .i64 two, .int .i64 two] (lj L r (J + 1)) (lj L r (J + 1)) ρ' w' (.slice la (2 * J) lc) ls (.slice wa (2 * J) wc') ws R))
            case first =>
              by_cases hJ4 : J = 4
              · subst hJ4
                rw [lj_low (Nat.le_refl _)] at hTk
                go_wp2_with (go_at_call 15; fail)
                refine (lleaf_at more r hr _).mono ?_
                rintro e w6 ⟨rfl, hw6⟩
                have t6 := hTk.out.below hB0 hw6 (rx ρ wr 0) (fun k hk => rx_old hk)
                obtain ⟨G, g1, g2⟩ := t6.tr
                have add := tAdd_any g1 r lr (by omega) (ZW.out _ t6.bel)
                have T6 := hid t6
                clear hTk hw6 t6
                go_wp2_with (go_at_call 24; fail)
                refine add.mono ?_
                rintro e w7 ⟨rfl, F7, X7, M7⟩
                have T7 := hid (T6.out.addT hB0 g1 g2 X7 M7)
                clear add X7 M7 T6 g1 g2
                go_wp2_with (go_at_call 15; fail)
                refine (lleaf_at more r hr _).mono ?_
                rintro e w8 ⟨rfl, hw8⟩
                have t8 := T7.out.below hB0 hw8 (rx _ w7 0) (fun k hk => rx_old hk)
                obtain ⟨G', g1, g2⟩ := t8.rt
                have add := rAdd_any g1 r lr (by omega) (by have := (ZW.out _ t8.bel).lt; omega)
                have T8 := hid t8
                clear T7 hw8 t8
                go_wp2_with (go_at_call 23; fail)
                refine add.mono ?_
                rintro e w9 ⟨rfl, F9, X9, M9⟩
                have T9 := hid (T8.out.addX hB0 g1 g2 X9 M9)
                clear add X9 M9 T8 g1 g2
                go_wp2
                go_meet
                exact ⟨_, by rw [show 4 + 1 = 5 from rfl, lj_five]; exact T9⟩
              · have n4 : ¬ (J : Int) = 4 := by omega
                rw [lj_low (by omega)] at hTk
                go_wp2
                go_meet
                exact ⟨ρ, by rw [lj_low (by omega)]; exact hTk⟩
            case rest =>
              obtain ⟨ρ1, hT1⟩ := hcut
              obtain ⟨wS, hwS⟩ : ∃ wS, wc = wS := ⟨_, rfl⟩
              rw [hwS] at hT1 ⊢
              clear hwS hTk
              have hLL : (lj L r (J + 1)).length ≤ 1000 := by
                unfold lj
                split
                · omega
                · rw [List.length_append]; simp; omega
              obtain ⟨LC, hLC⟩ : ∃ LC, lj L r (J + 1) = LC := ⟨_, rfl⟩
              have HLC := hid hLC
              rw [hLC] at hLL hT1
              clear hLC
              have cJ : wS.cell? ⟨ga, J, none⟩ = some (.int .i64 (ask two three J)) := by rw [cell_of_row _ _ _ _ _ _ hT1.out.ak]; exact ask_at two three hJ5
              have lga : ga < wS.heap.size := lt_of_heap hT1.out.ak
              generalize ask two three J = aj at *
              obtain ⟨G, g1, g2⟩ := hT1.out.rt
              obtain ⟨G', g1', g2'⟩ := hT1.out.tr
              have X1 := hid g1
              have T1 := hid g1'
              have ZS := hid (ZW.out _ hT1.out.bel)
              have hP := hid (path_few hLL one aj)
              have hQ := hid (proof_few hLL one aj)
              have iA := rInc11_any X1.out one aj
              have iB := fun w' (hb : Below wS.heap.size wS w') => rCon11_any (X1.out.below hb) one aj
              have iC := fun w' (hb : Below wS.heap.size wS w') => inc11_any (T1.out.below hb) (ZS.out.below hb ZS.out.lt) one aj
              have iD := fun w' (hb : Below wS.heap.size wS w') => con11_any (T1.out.below hb) (ZS.out.below hb ZS.out.lt) one aj
              generalize incL LC one aj = A at *
              generalize conL LC one aj = B at *
              generalize incE LC one aj = E1 at *
              generalize conE LC one aj = E2 at *
              clear g1 g2 g1' g2'
              go_wp2_with (go_at_call 25; fail)
              refine iA.mono ?_
              rintro e wA ⟨vA, rfl, oA, bA⟩
              obtain ⟨oA1, fA⟩ := oA.ownM1
              rw [svs_length] at oA1
              have OA := hid oA1
              have FA := hid fA
              have BA := hid bA
              have cA := (bA.cell (p := ⟨ga, J, none⟩) lga).trans cJ
              have lA : ga < wA.heap.size := block_lt_of_cell cA
              clear iA oA oA1 fA bA cJ
              go_wp2_with (go_at_call 26; fail)
              refine (iB _ BA.out).mono ?_
              rintro e wB ⟨vB, rfl, oB, bB⟩
              obtain ⟨oB1, fB⟩ := oB.ownM1
              rw [svs_length] at oB1
              have OB := hid oB1
              have FB := hid fB
              have BB := hid (BA.out.trans (bB.mono BA.out.size))
              have OA2 := hid (OA.out.below bB)
              have sAB := bB.size
              have cB := (bB.cell (p := ⟨ga, J, none⟩) lA).trans cA
              have lB : ga < wB.heap.size := block_lt_of_cell cB
              clear iB oB oB1 fB bB cA lA
              go_wp2_with (go_at_call 10; fail)
              refine (iC _ BB.out).mono ?_
              rintro e wC ⟨vC, rfl, oC, fC, bC⟩
              have OC := hid oC
              have FC := hid fC
              have BC := hid (BB.out.trans (bC.mono BB.out.size))
              have OA3 := hid (OA2.out.below bC)
              have OB2 := hid (OB.out.below bC)
              have sBC := bC.size
              have cC := (bC.cell (p := ⟨ga, J, none⟩) lB).trans cB
              have lC : ga < wC.heap.size := block_lt_of_cell cC
              clear iC oC fC bC cB lB
              go_wp2_with (go_at_call 12; fail)
              refine (iD _ BC.out).mono ?_
              rintro e wD ⟨vD, rfl, oD, fD, bD⟩
              have OD := hid oD
              have BD := hid (BC.out.trans (bD.mono BC.out.size))
              have sCD := bD.size
              have s0A := BA.out.size
              have tD := hT1.out.below hB0 BD.out (r5 ρ1 wS.heap.size wB.heap.size wC.heap.size R.length) (fun k hk => if_pos hk)
              have rC : ∀ k, vC.ownBlock = some k → r5 ρ1 wS.heap.size wB.heap.size wC.heap.size R.length k = 5 + R.length := fun k hk => by
                have := FC.out k hk; have := OC.out.lt k hk
                unfold r5; rw [if_neg (by omega), if_neg (by omega), if_pos (by omega)]
              have rD : ∀ k, vD.ownBlock = some k → r5 ρ1 wS.heap.size wB.heap.size wC.heap.size R.length k = 5 + (R.length + 1) := fun k hk => by
                have := fD k hk
                unfold r5; rw [if_neg (by omega), if_neg (by omega), if_neg (by omega)]
              have rA : ∀ k, vA.ownBlock = some k → r5 ρ1 wS.heap.size wB.heap.size wC.heap.size R.length k = 0 := fun k hk => by
                have := FA.out k hk; have := OA.out.lt k hk
                unfold r5; rw [if_neg (by omega), if_pos (by omega)]
              have rB : ∀ k, vB.ownBlock = some k → r5 ρ1 wS.heap.size wB.heap.size wC.heap.size R.length k = 0 := fun k hk => by
                have := FB.out k hk; have := OB.out.lt k hk
                unfold r5; rw [if_neg (by omega), if_pos (by omega)]
              generalize r5 ρ1 wS.heap.size wB.heap.size wC.heap.size R.length = ρ2 at *
              obtain ⟨aA, kA, eA, _, _⟩ := OA.out.shape
              obtain ⟨aB, kB, eB, _, _⟩ := OB.out.shape
              obtain ⟨aC, kC, eC, _, _⟩ := OC.out.shape
              obtain ⟨aD, kD, eD, _, _⟩ := oD.shape
              subst eA
              subst eB
              subst eC
              subst eD
              have hls : ls.length = 2 * J := hT1.out.l1.trans hRl
              have hws : ws.length = 2 * J := hT1.out.l2.trans hRl
              have olD := tD.ol
              have owD := tD.ow
              obtain ⟨vl2, wE, hap1, o1, g1⟩ := append_tx2 wD (.slice la (2 * J) lc) ls aC A.length kC aD B.length kD olD (by omega)
              have ow1 : OwnM 1 wE (.slice wa (2 * J) wc') ws.length ws := owD.kept g1.size (fun k hk => g1.old k (owD.lt k hk) (fun e => by have x := tD.rl k e; have y := tD.rw_ k hk; omega))
              obtain ⟨vw2, wG, hap2, o2, g2⟩ := append_tx2 wE (.slice wa (2 * J) wc') ws aA A.length kA aB B.length kB ow1 (by omega)
              have TP := hid (tD.push hB0 (OC.out.below bD) rC oD rD (OA3.out.below bD) rA (OB2.out.below bD) rB g1 o1 g2 o2)
              have z1 : (E1 == E1) = true := by simp
              have z2 : (E2 == E2) = true := by simp
              obtain ⟨nA, hnA⟩ : ∃ nA, A.length = nA := ⟨_, rfl⟩
              obtain ⟨nB, hnB⟩ : ∃ nB, B.length = nB := ⟨_, rfl⟩
              rw [hnA, hnB] at hap1 hap2
              rw [hnA, hnB]
              clear iD oD fD bD cC lC tD rA rB rC rD OA OB OC OD OA2 OA3 OB2 FA FB FC BA BB BC BD X1 T1 ZS hT1 olD owD ow1 o1 o2 g1 g2
              go_wp2_with (first
                | (at_builtin; refine Lib.wpList_append_run _ rfl _ _ 51 51 rfl _ _ rfl rfl _ _ hap1 ?_; clear hap1)
                | (at_builtin; refine Lib.wpList_append_run _ rfl _ _ 51 51 rfl _ _ rfl rfl _ _ hap2 ?_; clear hap2))
              rw [hnA, hnB] at TP
              exact ⟨⟨J + 1, _, _, _, R ++ [A, B], by omega, by go_num, by rw [List.length_append, hRl]; rfl, by rw [HLC.out]; exact TP, hid (fun l hl => by
                rcases List.mem_append.1 hl with hl | hl
                · exact hR.out l hl
                · simp only [List.mem_cons, List.not_mem_nil, or_false] at hl
                  rcases hl with rfl | rfl
                  · exact hP.out
                  · exact hQ.out)⟩, by simp [intOf]; omega⟩
          · obtain rfl : J = 5 := by omega
            rw [show ((5 : Nat) : Int) = 5 from rfl]
            rw [lj_five] at hTk
            have hls : ls.length = 10 := hTk.out.l1.trans hRl
            have hws : ws.length = 10 := hTk.out.l2.trans hRl
            obtain ⟨gl, cl, hle, _, _, _⟩ := hTk.out.ol.some11 (by omega)
            obtain ⟨gw, cw, hwe, _, _, _⟩ := hTk.out.ow.some11 (by omega)
            rw [hle, hwe] at hTk ⊢
            rw [hls, hws] at hTk ⊢
            have hls2 := hid hls
            clear hle hwe hls hws
            obtain ⟨wE, hwE⟩ : ∃ wE, wr = wE := ⟨_, rfl⟩
            rw [hwE] at hTk ⊢
            clear hwE
            go_wp2
            go_loopw [32, 33] (fun i _ w' => ∃ T : Nat, T ≤ 10 ∧ i = .int .i64 (T : Int) ∧ Hid (Below wE.heap.size wE w')) (fun i _ _ => 10 - (intOf i).toNat)
            case atStart => exact ⟨0, by omega, rfl, Below.refl _ _⟩
            case round =>
              obtain ⟨T, hT10, rfl, hB⟩ := hrel
              by_cases hTl : T < 10
              · have b3 : (T : Int) < 10 := by omega
                have t0 : (0 : Int) ≤ (T : Int) := by omega
                obtain ⟨l, hl⟩ : ∃ l, R[T]? = some l := ⟨_, List.getElem?_eq_getElem (by rw [hRl]; omega)⟩
                have hll := hR.out l (List.mem_of_getElem? hl)
                obtain ⟨v, e1, o1, _⟩ := hTk.out.own T l hl
                obtain ⟨u, e2, o2, _⟩ := hTk.out.want T l hl
                obtain ⟨g1, k1, f1, d1, la1⟩ := hTk.out.ol.cell e1
                obtain ⟨g2, k2, f2, d2, la2⟩ := hTk.out.ow.cell e2
                injection f1 with f1 f1' f1''
                clear f1' f1''
                injection f1 with f1
                injection f1 with f1
                subst f1
                injection f2 with f2 f2' f2''
                clear f2' f2''
                injection f2 with f2
                injection f2 with f2
                subst f2
                obtain ⟨a1, c1, es1, _, _⟩ := o1.shape
                obtain ⟨a2, c2, es2, _, _⟩ := o2.shape
                subst es1
                subst es2
                have x1 := (hB.out.cell (p := ⟨gl, T, none⟩) la1).trans d1
                have x2 := (hB.out.cell (p := ⟨gw, T, none⟩) la2).trans d2
                have l1 : gl < wr.heap.size := block_lt_of_cell x1
                have l2 : gw < wr.heap.size := block_lt_of_cell x2
                have hs := same_yes l a1 a2 c1 c2 wr.drew (show At wr a1 l from (o1.below hB.out).at1) (show At wr a2 l from (o2.below hB.out).at1) (by omega)
                obtain ⟨n, hn⟩ : ∃ n, l.length = n := ⟨_, rfl⟩
                rw [hn] at hs x1 x2
                clear o1 o2 d1 d2 e1 e2 hl la1 la2
                go_wp2
                go_region_held3 (fun w' => w'.cell? ⟨gl, T, none⟩ = some (.slice a1 n c1) ∧ w'.cell? ⟨gw, T, none⟩ = some (.slice a2 n c2)) (first | exact e4 | exact ⟨x1, x2⟩)
                  (first | (go_at_call 18; (with_reducible refine hs.mono ?_); rintro e w2 ⟨rfl, hw2', _⟩; have hw2 := drewBelow11 hw2'; have e4 := And.intro ((hw2.cell (p := ⟨gl, T, none⟩) l1).trans x1) ((hw2.cell (p := ⟨gw, T, none⟩) l2).trans x2)))
                all_goals
                  have HB2 := hid (hB.out.trans (hw2.mono hB.out.size))
                  clear hw2 hw2' e4 hs
                  go_wp2
                  exact ⟨⟨T + 1, by omega, by go_num, HB2⟩, by simp [intOf]; omega⟩
              · obtain rfl : T = 10 := by omega
                have b3 : ¬ (10 : Int) < 10 := by omega
                have tF := hTk.out.below hB0 hB.out (rx ρ wE 0) (fun k hk => rx_old hk)
                have oF := Tk.toOw (gl := gl) (cl := cl) (ls := ls) (by rw [hls2.out]; exact tF)
                have own := owned11_any _ wr gl 10 cl ls _ _ oF hls2.out (by omega) (fun j => by
                  rw [svs_length]
                  by_cases hj : j < R.length
                  · rw [show R.getD j [] = R[j] from by simp [List.getD, hj]]; exact hR.out _ (List.getElem_mem hj)
                  · rw [show R.getD j [] = [] from by simp [List.getD, hj]]; simp)
                have TF := hid tF
                clear oF tF hTk hB
                go_wp2_with (go_at_call 27; fail)
                refine own.mono ?_
                rintro e wO ⟨rfl, kO⟩
                obtain ⟨F1, f1, f2⟩ := TF.out.tr
                obtain ⟨F2, f3, f4⟩ := TF.out.rt
                have TO := hid (f1.keep kO (fun k hk e => by have := f2 k hk; omega))
                have XO := hid (f3.keep kO (fun k hk e => by have := f4 k hk; omega))
                have BO := hid (show Below w.heap.size w wO from TF.out.bel.trans ⟨kO.os, kO.tape, kO.output, kO.size, fun k hk => kO.block k (by have := TF.out.bel.size; omega) (by rw [TF.out.low k hk]; omega)⟩)
                have ZO := ZW.out _ BO.out
                generalize L ++ [r] = LL at *
                have i1 := tSizeL TO.out
                have i2 := tRoot_any TO.out (LL.length : Int) ZO (hid tPartO_all)
                have i3 := fun w' (hb : Below wO.heap.size wO w') => rSizeL (XO.out.below hb)
                have i4 := fun w' (hb : Below wO.heap.size wO w') => rRoot7_any (XO.out.below hb) (LL.length : Int) (hid tPartO_all)
                generalize Tree.root LL = rt at *
                generalize LL.length = nl at *
                simp only [show sv rt = Value.string ⟨rt.toArray⟩ from rfl] at i2 i4
                have hrr : ((ByteArray.mk rt.toArray).toList == (ByteArray.mk rt.toArray).toList) = true := by simp
                clear own kO f1 f2 f3 f4 TO XO TF ZO
                go_wp2_with (first
                  | (go_at_call 8; refine i1.mono ?_; rintro e w' ⟨rfl, h0⟩; have h0 := h0.symm; subst h0)
                  | (go_at_call 19; refine i2.mono ?_; rintro e wP ⟨rfl, bP⟩; have BP := hid bP; clear bP)
                  | (go_at_call 29; refine (i3 _ BP.out).mono ?_; rintro e w' ⟨rfl, h0⟩; have h0 := h0.symm; subst h0)
                  | (go_at_call 28; refine (i4 _ BP.out).mono ?_; rintro e wQ ⟨rfl, bQ⟩; have BQ := hid bQ; clear bQ))
                go_ret
                exact ⟨rfl, BO.out.trans ((BP.out.trans (BQ.out.mono BP.out.size)).mono BO.out.size)⟩
end Go.Proofs.YtkiibcfjjplkaaaDoor
