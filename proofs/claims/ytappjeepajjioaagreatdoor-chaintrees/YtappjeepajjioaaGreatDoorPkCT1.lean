import Derived.Test.YtappjeepajjioaaGreatDoorPkCT0
namespace Go.Proofs.YtappjeepajjioaaGreatDoor
open Go.RowKit Go.Shelf
namespace Chn
set_option maxRecDepth 100000 in
set_option maxHeartbeats 4000000 in
theorem trees13_law (ht mo : Int) (E : List (List UInt8)) (D : List Int) (N Dn : Nat) (hN : Hid (E.length = N)) (hD : Hid (D.length = Dn)) (lN : N ≤ 9223372036854775807) (lD : Dn ≤ 9223372036854775807) (hbh : -9223372036854775808 ≤ ht ∧ ht ≤ 9223372036854775807) (hbm : -9223372036854775808 ≤ mo ∧ mo ≤ 9223372036854775807) (a d : Option Addr) (ca cd : Nat) (w : World) (hA : At w a E) (hE : ∀ x ∈ E, x.length ≤ 140737488355000) (hAd : AtI w d D) (hDr : ∀ c ∈ D, -9223372036854775808 ≤ c ∧ c ≤ 9223372036854775807) (Z : Tb w) :
    Calls Tryz.prog 4 #[.int .i64 ht, .slice a N ca, .slice d Dn cd, .int .i64 mo] w fun e w' => e = .returned (.bool true) ∧ Below w.heap.size w w' := by
  have i1 := known13_any w Z.t
  have i2 := fun w' => pick_any (N : Int) 90 (by omega) (by omega) (by omega) (by omega) w'
  have p0 := pk_nonneg (N : Int) 90 (by omega)
  have p1 := pk_lt (N : Int) 90 (by omega)
  obtain ⟨n, hn⟩ : ∃ n : Nat, (n : Int) = 1 + pk (N : Int) 90 := ⟨(1 + pk (N : Int) 90).toNat, by omega⟩
  have s1 : IntKind.i64.wrap (1 + pk (N : Int) 90) = (n : Int) := by rw [wrap_small _ (by omega) (by omega)]; omega
  have n1 : 1 ≤ n := by omega
  have n2 : n ≤ 90 := by omega
  have i3 := fun w' (bb : Below w.heap.size w w') => trees13_any ht E n N hN (by omega) a ca w' hbh.1 hbh.2 (hA.below bb (Nat.le_refl _)) hE (Z.below bb Z.lt)
  have i4 := fun w' (bb : Below w.heap.size w w') => rising13_any D n 64 n1 (by omega) (by omega) (by omega) Dn hD lD d cd w' (hAd.below bb (Nat.le_refl _)) hDr
  have HZ := hid (fun w' (bb : Below w.heap.size w w') => Z.below bb Z.lt)
  generalize pk (N : Int) 90 = pp at *
  clear hn p0 p1 hA hE hAd hDr Z
  go_enter Tryz.func4, Tryz.ntmps4
  go_wp2_with (first
    | (go_at_call 7; refine i1.mono ?_; rintro r w1 ⟨rfl, b1⟩; have B1 := hid b1; clear b1)
    | (go_at_call 8; refine (i2 _).mono ?_; rintro r w1' ⟨rfl, h0⟩; have h0 := h0.symm; subst h0)
    | (go_at_call 9; refine (i3 _ B1.out).mono ?_; rintro r w2 ⟨q, q', h, L, F, F', rfl, hL, tt⟩; have B2 := hid (B1.out.trans (tt.bel.mono B1.out.size)); have T2 := hid tt.t; have HL := hid hL; have FG2 := hid (fun k f => Nat.le_trans B1.out.size (tt.g k f)); clear hL tt)
    | (go_at_call 10; refine (i4 _ B2.out).mono ?_; rintro r w3 ⟨vl, hs, rfl, ol, HH, hle, _, gl, b3⟩; have B3 := hid (B2.out.trans (b3.mono B2.out.size)); have T3 := hid (T2.out.below b3); obtain ⟨la, lc, hla, _, _⟩ := ol.shape; obtain ⟨x, hx⟩ := (OwnM.atIC (show OwnM 1 w3 (.slice la hs.length lc) hs.length (ivC hs) by { rw [← hla]; exact ol })).pos (by { simp [ix]; exact HH.ne }); subst hx; have i5 := proveC_ok hs HH hs.length (told hs).length rfl rfl T3.out (HZ.out _ B3.out) (fun y hy => by { rw [HL.out]; exact hle y hy }) x lc (OwnM.atIC (show OwnM 1 w3 (.slice (some x) hs.length lc) hs.length (ivC hs) by { rw [← hla]; exact ol })); have OL := hid ol; have GL3 := hid gl; have HHH := hid HH; have HLE := hid hle; have hms := HH.le; have hm1 := HH.ne; subst hla; clear ol HH hle gl b3)
    | (go_at_call 11; refine i5.mono ?_; rintro r w4 ⟨vH, G, rfl, oH, hvH, rowG, hG, b4⟩; obtain ⟨ha, hc, hha, _, _⟩ := oH.shape; subst hha; have OH := hid oH; have HVH := hid hvH; have HRW := hid rowG; have HG := hid hG; have B4' := hid b4; clear oH hvH rowG hG b4))
  obtain ⟨m, hm⟩ : ∃ m, hs.length = m := ⟨_, rfl⟩
  obtain ⟨k, hk⟩ : ∃ k, (told hs).length = k := ⟨_, rfl⟩
  have HM := hid hm
  have HK := hid hk
  have A0 : Hid (Al (w4.alloc (.cells #[.slice ha hs.length hc, .slice (some ⟨G, 0, none⟩) (told hs).length (told hs).length] 32)) (w4.alloc (.cells #[.slice ha hs.length hc, .slice (some ⟨G, 0, none⟩) (told hs).length (told hs).length] 32)) w4.heap.size G (.slice ha hs.length hc) (.slice (some x) hs.length lc) (.slice none 0 0) hs (pvH L hs) [] hs.length (told hs).length) := by
    have bA := (Below.refl w4.heap.size w4).alloc (Nat.le_refl _) (.cells #[.slice ha hs.length hc, .slice (some ⟨G, 0, none⟩) (told hs).length (told hs).length] 32)
    have zg := HRW.out.lt
    refine ⟨ChI.new w4 _ _, OH.out.below bA, (OL.out.below B4'.out).below bA, HRW.out.below bA zg, OwnM.nil 1 _, (fun i hi => by cases hi), by simp, by rw [size_alloc]; omega, fun i hi => ⟨?_, (HVH.out i hi).2⟩, fun i hi => ⟨?_, ?_⟩, by omega, Nat.le_refl _⟩
    · have := OH.out.lt i hi; rw [size_alloc]; omega
    · have := OL.out.lt i hi; have := B4'.out.size; rw [size_alloc]; omega
    · have := OL.out.lt i hi; have := HG.out; omega
  have B5 : Hid (Below w.heap.size w (w4.alloc (.cells #[.slice ha hs.length hc, .slice (some ⟨G, 0, none⟩) (told hs).length (told hs).length] 32))) := by
    have b := B3.out.trans (B4'.out.mono B3.out.size)
    exact b.alloc b.size _
  have T5 := hid ((T3.out.below B4'.out).below ((Below.refl _ _).alloc (Nat.le_refl _) (.cells #[.slice ha hs.length hc, .slice (some ⟨G, 0, none⟩) (told hs).length (told hs).length] 32)))
  have hL32 := hid T3.out.hs
  have hGw : Hid (w.heap.size ≤ G) := Nat.le_trans B3.out.size HG.out
  rw [hm] at hms hm1 ⊢
  unfold Hid at A0 B5 T5
  rw [hm, hk] at A0 B5 T5
  rw [hk]
  generalize w4.alloc (.cells #[.slice ha m hc, .slice (some ⟨G, 0, none⟩) k k] 32) = w5 at *
  have A0 := hid A0
  have B5 := hid B5
  have T5 := hid T5
  have lk : k ≤ 2583 := by rw [← hk]; exact tol_few HHH.out (by have := HHH.out.ne; omega)
  have zw3 := B3.out.size
  have zw2 := B2.out.size
  have offF : Hid (∀ i, Al.F w4.heap.size G (.slice ha m hc) (.slice (some x) m lc) (.slice none 0 0) i → ¬ F i) := by
    have z4 := B4'.out.size
    have zt : ∀ i, F i → i < w2.heap.size := T2.out.lt
    have zx := hid (OL.out.lt)
    have hg := HG.out
    rintro i (e | e | e | e | e) f
    · have := zt i f; have := T3.out.lt i f; omega
    · have := T3.out.lt i f; omega
    · have := T3.out.lt i f; have := (HVH.out i (by rw [HM.out]; exact e)).1; omega
    · have := zt i f; have := GL3.out i (by rw [HM.out]; exact e); omega
    · cases e
  clear i1 i3 i4 i5 T2 T3 OL OH HVH HRW HG B1 B2 B3 B4' hk hm GL3
  obtain ⟨c, hcq⟩ : ∃ c, w4.heap.size = c := ⟨_, rfl⟩
  rw [hcq] at A0 offF ⊢
  clear hcq
  have j2 := fun w' => pick_any mo 9 hbm.1 hbm.2 (by omega) (by omega) w'
  have q0 := pk_nonneg mo 9 (by omega)
  have q1 := pk_lt mo 9 (by omega)
  obtain ⟨P, hP⟩ : ∃ P : Nat, pk mo 9 = (P : Int) := ⟨(pk mo 9).toNat, by omega⟩
  rw [hP] at j2 q1
  have hP9 : P < 9 := by omega
  have j1 := fun w' => hash8_any ⟨#[109, 111, 114, 101]⟩ (by decide) w'
  have l32 := hid (Sha.sha_length (⟨#[109, 111, 114, 101]⟩ : ByteArray).data.toList)
  unfold Hid at l32
  generalize Sha.sha (⟨#[109, 111, 114, 101]⟩ : ByteArray).data.toList = Y at *
  have l32 := hid l32
  rw [show sv Y = .string ⟨Y.toArray⟩ from rfl] at j1
  clear hP q0 q1
  go_loopw [16, 17] (fun i _ w' => ∃ (j : Nat) (X : List (List UInt8)) (F' : Nat → Prop), j ≤ P ∧ i = .int .i64 (j : Int) ∧ Hid (X.length = j) ∧ Hid (TrL w' q h (L ++ X) F') ∧ Hid (Al w5 w' c G (.slice ha m hc) (.slice (some x) m lc) (.slice none 0 0) hs (pvH L hs) [] m k) ∧ Hid (∀ i, Al.F c G (.slice ha m hc) (.slice (some x) m lc) (.slice none 0 0) i → ¬ F' i) ∧ Hid (∀ i, F' i → w.heap.size ≤ i) ∧ Hid (Below w.heap.size w w')) (fun i _ _ => P - (intOf i).toNat)
  case atStart => exact ⟨0, [], F, by omega, rfl, rfl, by unfold Hid; rw [List.append_nil]; exact T5.out, A0, offF, FG2, B5⟩
  case round =>
    clear A0 offF FG2 B5 T5
    obtain ⟨j, X, F', hj, rfl, hX, hT, hAl, hoff, hFg, hBw⟩ := hrel
    by_cases hjP : j < P
    · have e0 : (j : Int) < (P : Int) := by omega
      have hLn : (L ++ X).length < 1048576 := by rw [List.length_append, HL.out, hX.out]; omega
      go_wp2_with (first
        | (go_at_call 8; refine (j2 _).mono ?_; rintro r w6 ⟨rfl, h6⟩; have h6 := h6.symm; subst h6)
        | (go_at_call 13; refine (j1 _).mono ?_; rintro r w7 ⟨rfl, b7⟩; have T7 := hid (hT.out.below b7); have A7 := hid (hAl.out.below b7); have B7 := hid (hBw.out.trans (b7.mono hBw.out.size)); have ad := tAdd_any T7.out Y l32.out hLn (HZ.out _ B7.out); clear b7)
        | (go_at_call 17; refine ad.mono ?_; rintro r w8 ⟨rfl, F8, t8, m8⟩; have b8 := m8.below (B := w.heap.size) B7.out.size hFg.out; have A8 := hid (A7.out.keep m8.keep hoff.out); have off8 : Hid (∀ i, Al.F c G (.slice ha m hc) (.slice (some x) m lc) (.slice none 0 0) i → ¬ F8 i) := (fun i f g => by { rcases m8.new i g with g | g; exact hoff.out i f g; have := A7.out.Flt i f; omega }); have T8 := hid t8; have FG8 := hid b8.2; have B8 := hid (B7.out.trans b8.1); clear t8 m8 b8))
      exact ⟨⟨j + 1, X ++ [Y], F8, by omega, by go_num, by unfold Hid; rw [List.length_append, hX.out]; rfl, by unfold Hid; rw [← List.append_assoc]; exact T8.out, A8, off8, FG8, B8⟩, by simp [intOf]; omega⟩
    · obtain rfl : j = P := by omega
      have e0 : ¬ (j : Int) < (j : Int) := by omega
      have pl : Hid ((pvH L hs).length = k) := by unfold Hid pvH; rw [List.length_map]; exact HK.out
      have p32 := hid (pvH_32 hL32.out hs)
      have SG := hid (fun (b e : Nat) (he : e ≤ n) => sg_more (L := L) (X := X) (b := b) (e := e) (by rw [HL.out]; exact he))
      have LL : Hid (n ≤ (L ++ X).length) := by unfold Hid; rw [List.length_append, HL.out]; omega
      have CK : Hid (ckO (ix hs) (pvH L hs) (rts L hs m) = 0) := by
        have he : exE (ix hs) (pvH L hs) = 0 := by unfold exE; rw [hds_mayB HHH.out, if_pos rfl, ix_toN, pl.out, HK.out, if_pos ⟨rfl, hsB_C p32.out⟩]
        have hxl : (ix hs).length = m := by rw [← HM.out]; simp [ix]
        have hrl : (rts L hs m).length = m := rts_len L hs (by rw [HM.out]; exact Nat.le_refl _)
        have hca := ck_all hL32.out (by rw [HL.out]; omega) HHH.out (fun y hy => by rw [HL.out]; exact HLE.out y hy)
        rw [HM.out] at hca
        unfold Hid ckO
        rw [if_pos he, ix_toN, hrl, hxl, if_pos ⟨rfl, hsB_C (rts_32 hL32.out hs m)⟩, hca, if_pos rfl]
      have EXP := hid (fun i (hi : i + 1 < hs.length) => fld_sg (L := L) HHH.out (fun y hy => by rw [HL.out]; exact HLE.out y hy) hi)
      have hexl : Hid ((exL hs (pvH L hs)).length = m - 1) := by unfold Hid; rw [← HM.out]; simp [exL]
      have EXA := hid (fun i (hi : i < hs.length - 1) => exL_at (hs := hs) (H := pvH L hs) hi)
      have j3 := expandC_ok hs HHH.out (pvH L hs) m k HM.out pl.out HK.out ha (some ⟨G, 0, none⟩) hc k wr (OwnM.atIC hAl.out.oh) (Row.at13 hAl.out.row) (hsB_C p32.out) (HZ.out _ hBw.out).t
      have j4 := fun w' (hA' : AtI w' (some x) (ix hs)) => nodes13_any (ix hs) m (show (ix hs).length = m by rw [← HM.out]; simp [ix]) (some x) lc w' hA' (by omega)
      have n1' : ndE (ix hs) = 0 := by unfold ndE; rw [hds_mayB HHH.out]; rfl
      have n2' : ndL (ix hs) = told hs := by unfold ndL; rw [hds_mayB HHH.out, if_pos rfl, ix_toN]
      rw [n1', n2'] at j4
      have c0 := hAl.out.ch.c0
      have c1 := hAl.out.ch.c1
      obtain ⟨M, hMM⟩ : ∃ M, m = M + 1 := ⟨m - 1, by omega⟩
      have HMM := hid hMM
      have v1 : IntKind.i64.wrap ((m : Int) - 1) = (M : Int) := by rw [IntKind.wrap_i64]; omega
      unfold Hid at hexl
      rw [show m - 1 = M by omega] at hexl
      have hexl := hid hexl
      obtain ⟨H, hH⟩ : ∃ H, pvH L hs = H := ⟨_, rfl⟩
      have HH0 := hid hH
      unfold Hid at pl p32 CK EXP EXA hexl hAl
      rw [hH] at j3 pl p32 CK EXP EXA hexl hAl
      have pl := hid pl
      have p32 := hid p32
      have CK := hid CK
      have EXP := hid EXP
      have EXA := hid EXA
      have hexl := hid hexl
      have hAl := hid hAl
      obtain ⟨ps, hps⟩ : ∃ ps, exL hs H = ps := ⟨_, rfl⟩
      unfold Hid at EXA hexl
      rw [hps] at j3 EXA hexl
      have EXA := hid EXA
      have hexl := hid hexl
      have z0 : ((k : Int) != (k : Int)) = false := by simp
      have z1 : ((k : Int) == (k : Int)) = true := by simp
      have z2 : ((M : Int) != (M : Int)) = false := by simp
      have z3 : ((M : Int) == (M : Int)) = true := by simp
      clear hMM hH hps n1' n2' j1
      go_wp2_with (first
        | (go_at_call 8; refine (j2 _).mono ?_; rintro r w6 ⟨rfl, h6⟩; have h6 := h6.symm; subst h6)
        | (go_at_call 14; refine j3.mono ?_; rintro r w8 ⟨G2, gs, rfl, rv, gl, ls, g2w, b8⟩; have A8 := hid (hAl.out.below b8); have T8 := hid (hT.out.below b8); have B8 := hid (hBw.out.trans (b8.mono hBw.out.size)); have RV := hid rv; have GL := hid gl; have LS := hid ls; have j5 := j4 w8 (OwnM.atIC A8.out.ol); rw [hexl.out]; clear rv gl ls b8 g2w)
        | (go_at_call 18; refine j5.mono ?_; rintro r w9 ⟨b9, vs, rfl, os, _⟩; have A9 := hid (A8.out.below b9).anew; have T9 := hid (T8.out.below b9); have B9 := hid (B8.out.trans (b9.mono B8.out.size)); have RV9 := hid (RV.out.below b9 RV.out.lt); have LS9 := hid (LS.out.below b9); have OS := hid os; obtain ⟨sa, sc, hsa, hsc, hsc2⟩ := os.shape; rw [HK.out] at hsa hsc; subst hsa; have c2 := A9.out.ch.c1; clear b9 os))
      have LS0 := LS
      clear j2 j3 j4 j5 hAl A8 T8 B8 RV LS c0 c1 hT hoff hFg hBw
      obtain ⟨L', hL'⟩ : ∃ L', L ++ X = L' := ⟨_, rfl⟩
      unfold Hid at T9 LL SG
      rw [hL'] at T9 LL SG
      have T9 := hid T9
      have LL := hid LL
      have SG := hid SG
      clear hL'
      have i6 := hid (fun w' (bb : Below w9.heap.size w9 w') (y : Nat) (hy : y ≤ n) => tRoot_any (T9.out.below bb) (y : Int) (HZ.out _ (B9.out.trans (bb.mono B9.out.size))) (tPartO_nat (b := 0) (Nat.zero_le _) (Nat.le_trans hy LL.out)))
      have i7 := hid (fun w' (bb : Below w9.heap.size w9 w') (y0 y1 : Nat) (h1 : 1 ≤ y0) (h2 : y0 ≤ y1) (hy : y1 ≤ n) => con11_sp (T9.out.below bb) (HZ.out _ (B9.out.trans (bb.mono B9.out.size))) y0 y1 h1 h2 (Nat.le_trans hy LL.out))
      have hsm := hid (fun (y0 y1 : Nat) (h1 : 1 ≤ y0) (h2 : y0 ≤ y1) (hy : y1 ≤ n) => show hsh L' (prf y0 y1) = hsh L (prf y0 y1) from List.map_congr_left fun s hs' => by
        have := prf_lo h1 h2 s hs'
        rw [SG.out s.1 s.2 (by omega)])
      go_loopw [22, 23, 24, 25, 26, 27, 28, 29] (fun vr al i _ _ _ _ _ w' => ∃ j : Nat, j ≤ m ∧ al = .int .i64 ((allP hs (j - 1)).length : Int) ∧ i = .int .i64 (j : Int) ∧ Hid (Al w9 w' c G (.slice ha m hc) (.slice (some x) m lc) vr hs H (rts L hs j) m k) ∧ Hid (Below w9.heap.size w9 w')) (fun _ _ i _ _ _ _ _ _ => m - (intOf i).toNat)
      case atStart => exact ⟨0, by omega, rfl, rfl, A9, Below.refl _ _⟩
      case round =>
        clear A9
        obtain ⟨j, hj, rfl, rfl, hAl, hBw⟩ := hrel
        by_cases hjm : j < m
        · have e0 : (j : Int) < (m : Int) := by omega
          have e1 : (0 : Int) ≤ (j : Int) := by omega
          have hjh : j < hs.length := by rw [HM.out]; exact hjm
          have hyn : hs.getD j 0 ≤ n := HLE.out _ (List.mem_of_getElem? (getD_at hjh))
          obtain ⟨y, hy, _, cl⟩ := (OwnM.atIC hAl.out.ol) j _ (ix_at hjh)
          obtain rfl := Option.some.inj hy
          have r7 := i6.out _ hBw.out (hs.getD j 0) hyn
          rw [SG.out 0 _ hyn] at r7
          have nx := hid (rts_next L hs hjh)
          have rl := hid (rts_len L hs (k := j) (by omega))
          obtain ⟨R, hR⟩ : ∃ R, Tree.root (Til.sg L 0 (hs.getD j 0)) = R := ⟨_, rfl⟩
          unfold Hid at nx
          rw [hR] at r7 nx
          have nx := hid nx
          rw [show sv R = .string ⟨R.toArray⟩ from rfl] at r7
          clear hR
          by_cases hj0 : j = 0
          · subst hj0
            have cl0 : wr.cell? x = some (.int .i64 (hs.getD 0 0 : Int)) := cl
            generalize hs.getD 0 0 = hj' at *
            obtain ⟨A, hA'⟩ : ∃ A, (allP hs (0 - 1)).length = A := ⟨_, rfl⟩
            rw [hA']
            have HA0 := hid hA'
            clear hA'
            go_wp2_with (first
              | (go_at_call 12; refine r7.mono ?_; rintro r w10 ⟨rfl, b10⟩; have A10 := hid (hAl.out.below b10); obtain ⟨v11, w11, hap, O11, G11⟩ := append_txC w10 _ (rts L hs 0) ⟨R.toArray⟩ A10.out.orr (by { have := rl.out; omega }); have A11 := hid (A10.out.push O11 G11); have b11 := keep_belowC G11.keep (Nat.le_trans hBw.out.size b10.size) A10.out.gr; have B11 := hid ((hBw.out.trans (b10.mono hBw.out.size)).trans b11); clear b10 O11 G11 b11)
              | (at_builtin; go_must (refine Lib.wpList_append_run _ rfl _ _ 22 22 rfl _ _ rfl rfl _ _ hap ?_)))
            exact ⟨⟨1, by omega, by rw [← HA0.out], by go_num, (by unfold Hid; rw [nx.out]; exact A11.out), B11⟩, by simp [intOf]; omega⟩
          · obtain ⟨J, hJ⟩ : ∃ J, j = J + 1 := ⟨j - 1, by omega⟩
            have d0 : ¬ (j : Int) = 0 := by omega
            have hJh : J + 1 < hs.length := by omega
            have hJ0 : J < hs.length := by omega
            have hp := HHH.out.pair hJh
            have eP := EXP.out J hJh
            have eA := EXA.out J (by omega)
            rw [← hJ] at hp eP
            have cp := i7.out
            have sm := hsm.out (hs.getD J 0) (hs.getD j 0) hp.1 (Nat.le_of_lt hp.2.1) hyn
            have AA : Hid ((allP hs (j + 1 - 1)).length = (allP hs (j - 1)).length + (ps.getD J []).length) := by
              unfold Hid
              rw [eA, eP, ← sm, show j + 1 - 1 = J + 1 by omega, show j - 1 = J by omega, allP_next, ← hJ]
              unfold hsh
              rw [List.length_map]
            have Abd : (allP hs (j - 1)).length ≤ 2583 := by have := allP_len HHH.out (j - 1) (by omega); omega
            have Pbd : (ps.getD J []).length ≤ 41 := by
              rw [eA, eP]
              unfold hsh
              rw [List.length_map]
              exact prf_len hp.1 (Nat.le_of_lt hp.2.1) hp.2.2
            have hjp : J < ps.length := by rw [hexl.out]; have := HMM.out; omega
            obtain ⟨g2, hg1, hg2⟩ := zip_at GL.out hjp
            have hrow := LS9.out.row J g2 (ps.getD J []) hg1 (by rw [List.getD_eq_getElem?_getD, List.getElem?_eq_getElem hjp]; rfl)
            have hgw := (LS9.out.ge g2 (List.mem_of_getElem? hg1)).2
            have fact : ∀ w', OwnM 1 w' (.slice (some x) m lc) m (ivC hs) → w'.cell? (x.add J) = some (.int .i64 (hs.getD J 0 : Int)) ∧ w'.cell? (x.add j) = some (.int .i64 (hs.getD j 0 : Int)) := fun w' o => by
              obtain ⟨a1, h1', _, q1⟩ := (OwnM.atIC o) J _ (ix_at hJ0)
              obtain ⟨a2, h2', _, q2⟩ := (OwnM.atIC o) j _ (ix_at hjh)
              obtain rfl := Option.some.inj h1'
              obtain rfl := Option.some.inj h2'
              exact ⟨q1, q2⟩
            have k7 := fun w' (bb : Below w9.heap.size w9 w') => cp w' bb (hs.getD J 0) (hs.getD j 0) hp.1 (Nat.le_of_lt hp.2.1) hyn
            rw [show Tree.prfF (hs.getD j 0) 0 (hs.getD j 0) (hs.getD J 0) = prf (hs.getD J 0) (hs.getD j 0) from rfl, sm, ← eP, ← eA] at k7
            have fct := hid fact
            unfold Hid at fct
            generalize hs.getD j 0 = y1 at *
            generalize hs.getD J 0 = y0 at *
            have fct := hid fct
            obtain ⟨A, hA'⟩ : ∃ A, (allP hs (j - 1)).length = A := ⟨_, rfl⟩
            rw [hA'] at Abd ⊢
            unfold Hid at AA
            rw [hA'] at AA
            obtain ⟨PP, hPP⟩ : ∃ PP, ps.getD J [] = PP := ⟨_, rfl⟩
            rw [hPP] at AA hg2 hrow k7 Pbd
            have AA := hid AA
            have k8 := fun w' a d ca cd ha hd => texts13_yes PP a d ca cd w' ha hd (by omega)
            obtain ⟨nl, hnl⟩ : ∃ nl, PP.length = nl := ⟨_, rfl⟩
            unfold Hid at AA
            unfold lst at hg2
            unfold RwP at k7
            rw [hnl] at AA hg2 k7 k8 Pbd
            have AA := hid AA
            have K7 := hid k7
            have K8 := hid k8
            have HROW := hid hrow
            have HG2 := hid hg2
            have s1' : IntKind.i64.wrap ((A : Int) + (nl : Int)) = (A : Int) + (nl : Int) := by rw [IntKind.wrap_i64]; omega
            have w1' : IntKind.i64.wrap ((j : Int) - 1) = (J : Int) := by rw [IntKind.wrap_i64]; omega
            have b1 : (0 : Int) ≤ (J : Int) := by omega
            have b2 : (J : Int) < (m : Int) := by omega
            have b3 : (J : Int) < (M : Int) := by have := HMM.out; omega
            have HJ := hid hJ
            clear hj0 hA' hPP hnl eP eA cp sm fact hp hg1 hg2 hrow k7 k8 hJ hJh
            go_wp2_with (first
              | (go_at_call 12; refine r7.mono ?_; rintro r w10 ⟨rfl, b10⟩; have A10 := hid (hAl.out.below b10); obtain ⟨v11, w11, hap, O11, G11⟩ := append_txC w10 _ (rts L hs j) ⟨R.toArray⟩ A10.out.orr (by { have := rl.out; omega }); have A11 := hid (A10.out.push O11 G11); have b11 := keep_belowC G11.keep (Nat.le_trans hBw.out.size b10.size) A10.out.gr; have B11 := hid ((hBw.out.trans (b10.mono hBw.out.size)).trans b11); clear b10 O11 G11 b11)
              | (at_builtin; go_must (refine Lib.wpList_append_run _ rfl _ _ 22 22 rfl _ _ rfl rfl _ _ hap ?_)))
            have x0 := fct.out _ A11.out.ol
            have k7 := K7.out w11.drew B11.out.drew
            go_region_held3 (fun w' => w'.cell? (x.add J) = some (.int .i64 (y0 : Int)) ∧ w'.cell? (x.add j) = some (.int .i64 (y1 : Int))) (first | exact x1 | exact x0) (first | (go_at_call 19; refine k7.mono ?_; rintro r w12 ⟨g3, rfl, row3, _, b12⟩; have b12 := drewBelow8 b12; have A12 := hid (A11.out.below b12); have B12 := hid (B11.out.trans (b12.mono B11.out.size)); have x1 := fct.out _ A12.out.ol; have R3 := hid row3; clear b12 row3))
            have rv12 := (RV9.out.below B12.out RV9.out.lt).cell HG2.out
            have t8 := K8.out w12 (some ⟨g3, 0, none⟩) (some ⟨g2, 0, none⟩) nl nl (Row.at13 R3.out) (Row.at13 (HROW.out.below B12.out hgw))
            clear x0 x1 k7
            go_wp2_with (go_at_call 20; refine t8.mono ?_; rintro r w13 ⟨rfl, b13, _⟩; have A13 := hid (A12.out.below b13); have B13 := hid (B12.out.trans (b13.mono B12.out.size)); clear b13)
            exact ⟨⟨j + 1, by omega, (by rw [AA.out]; go_num), by go_num, (by unfold Hid; rw [nx.out]; exact A13.out), B13⟩, by simp [intOf]; omega⟩
        · obtain rfl : j = m := by omega
          have e0 : ¬ (j : Int) < (j : Int) := by omega
          have oR := hAl.out.orr
          have rl := rts_len L hs (k := j) (by rw [HM.out]; exact Nat.le_refl _)
          rw [rl] at oR
          obtain ⟨ra, rc, hra, _, _⟩ := oR.shape
          subst hra
          have hA63 : Hid ((told hs).length ≤ (allP hs (j - 1)).length) := by unfold Hid told; rw [HM.out]; exact tol_len hs _
          have Abd : (allP hs (j - 1)).length ≤ 2583 := by have := allP_len HHH.out (j - 1) (by rw [HM.out]; omega); omega
          unfold Hid at hA63
          rw [HK.out] at hA63
          generalize (allP hs (j - 1)).length = AL at *
          have BB := hid (B9.out.trans (hBw.out.mono B9.out.size))
          have A10 := hid hAl.out
          have T10 := hid (T9.out.below hBw.out)
          have OS10 := hid (OS.out.below hBw.out)
          have RL := hid rl
          obtain ⟨w10, hw10⟩ : ∃ w10, wr = w10 := ⟨_, rfl⟩
          rw [hw10] at A10 T10 OS10 BB ⊢
          clear hw10 i6 i7 hsm T9 OS B9 hAl hBw oR rl RV9 LS9 LS0 GL EXP EXA hexl
          have f6 := hid (fun w' (bb : Below w10.heap.size w10 w') (a b : Nat) (ha : a ≤ b) (hb : b ≤ n) => tPart_any (T10.out.below bb) (a : Int) (b : Int) (HZ.out _ (BB.out.trans (bb.mono BB.out.size))) (tPartO_nat ha (Nat.le_trans hb LL.out)))
          have tlo := hid (fun s (h : s ∈ told hs) => (show s.1 < s.2 ∧ s.2 ≤ n from by
            have h1 := (tol_lo HHH.out (i := hs.length - 1) (by have := HHH.out.ne; omega) s h).1
            refine ⟨h1, ?_⟩
            have key : ∀ i, i < hs.length → s ∈ allP hs i → s.2 ≤ n := fun i => by
              induction i with
              | zero => intro _ e; cases e
              | succ i ih =>
                intro hi e
                rcases List.mem_append.1 e with e | e
                · exact ih (by omega) e
                · have hp := HHH.out.pair hi
                  have := (prf_lo hp.1 (Nat.le_of_lt hp.2.1) s e).2
                  have := HLE.out _ (List.mem_of_getElem? (getD_at hi))
                  omega
            exact key _ (by have := HHH.out.ne; omega) (tol_sub hs _ s h)))
          have k4 := fun w' (bb : Below w10.heap.size w10 w') => checkC_any (ix hs) H (rts L hs j) j k j (show (ix hs).length = j by rw [← HM.out]; simp [ix]) pl.out RL.out ha (some ⟨G, 0, none⟩) ra hc k rc w' (OwnM.atIC (A10.out.below bb).oh) (Row.at13 (A10.out.below bb).row) (OwnM.atC (show OwnM 1 w' (.slice ra j rc) j (svs (rts L hs j)) by have := (A10.out.below bb).orr; rw [RL.out] at this; exact this)) (HZ.out _ (BB.out.trans (bb.mono BB.out.size))).t (by omega) (by omega) (by omega)
          rw [CK.out] at k4
          have K4 := hid k4
          have lst' := hid (getD_at (hs := hs) (i := M) (by rw [HM.out]; have := HMM.out; omega))
          clear k4
          go_wp2
          go_loopw [30, 31, 32, 33, 34] (fun i _ _ _ _ w' => ∃ b : Nat, b ≤ k ∧ i = .int .i64 (b : Int) ∧ Hid (Below w10.heap.size w10 w')) (fun i _ _ _ _ _ => k - (intOf i).toNat)
          case atStart => exact ⟨0, by omega, rfl, Below.refl _ _⟩
          case round =>
            obtain ⟨b, hb, rfl, hBw⟩ := hrel
            by_cases hbk : b < k
            · have e1 : (b : Int) < (k : Int) := by omega
              have e2 : (0 : Int) ≤ (b : Int) := by omega
              have hbT : b < (told hs).length := by rw [HK.out]; exact hbk
              obtain ⟨g5, hg5, _, p0, p1⟩ := ownP_atC (show OwnP wr (.slice sa k sc) (told hs) from OS10.out.below hBw.out) (List.getElem?_eq_getElem hbT)
              have AW := A10.out.below hBw.out
              have c1 := AW.ch.c1
              have hs5 := tlo.out _ (List.getElem_mem hbT)
              have f7 := f6.out _ hBw.out (told hs)[b].1 (told hs)[b].2 (Nat.le_of_lt hs5.1) hs5.2
              have hHb : H[b]? = some (Tree.root (Til.sg L (told hs)[b].1 (told hs)[b].2)) := by
                have := HH0.out
                rw [← this]
                unfold pvH
                rw [List.getElem?_map, List.getElem?_eq_getElem hbT]
                rfl
              rw [SG.out _ _ hs5.2] at f7
              have hcell := AW.row.cell (j := b) (p := Tree.root (Til.sg L (told hs)[b].1 (told hs)[b].2)) hHb
              have hcan := tol_tld hs (hs.length - 1) b _ (List.getElem?_eq_getElem hbT)
              have hfn := fun nn => foldA_not (n := nn) (K := (told hs).take b) (H := H.take b) hs5.1 (by rw [List.length_take, List.length_take, pl.out, HK.out]) hcan
              have hK5 : ∀ w', Below w10.heap.size w10 w' → AtP w' sa (pmC ((told hs).take b)) := fun w' bb q r hr => by
                unfold pmC at hr
                rw [List.map_take, List.getElem?_take] at hr
                split at hr
                · exact (OwnP.atP (show OwnP w' (.slice sa k sc) (told hs) from OS10.out.below bb)) q r hr
                · cases hr
              have hlK : (pmC ((told hs).take b)).length = b := by unfold pmC; rw [List.length_map, List.length_take, HK.out]; omega
              have hlH : (H.take b).length = b := by rw [List.length_take, pl.out]; omega
              have k6 := fun w' (bb : Below w10.heap.size w10 w') => foldF_any (hs.getD M 0 : Int) (pmC ((told hs).take b)) (H.take b) ((told hs)[b].1 : Int) ((told hs)[b].2 : Int) sa (some ⟨G, 0, none⟩) sc k w' (by rw [hlK]; omega) (by rw [hlH]; omega) (hK5 w' bb) ((Row.at13 (A10.out.below bb).row).take b) (HZ.out _ (BB.out.trans (bb.mono BB.out.size))).t
              rw [hlK, hlH] at k6
              have hfn' := hfn (hs.getD M 0 : Int)
              have fact : ∀ w', Below w10.heap.size w10 w' → w'.cell? (x.add M) = some (.int .i64 (hs.getD M 0 : Int)) ∧ w'.cell? ⟨c, 1, none⟩ = some (.slice (some ⟨G, 0, none⟩) k k) ∧ w'.cell? ⟨g5, b * 2, none⟩ = some (.int .i64 ((told hs)[b].1 : Int)) ∧ w'.cell? ⟨g5, b * 2 + 1, none⟩ = some (.int .i64 ((told hs)[b].2 : Int)) := fun w' bb => by
                have hMh : M < hs.length := by rw [HM.out]; have := HMM.out; omega
                obtain ⟨a1, h1', _, q1⟩ := (OwnM.atIC (A10.out.below bb).ol) M _ (ix_at hMh)
                obtain rfl := Option.some.inj h1'
                obtain ⟨g6, hg6, _, r0, r1⟩ := ownP_atC (show OwnP w' (.slice sa k sc) (told hs) from OS10.out.below bb) (List.getElem?_eq_getElem hbT)
                rw [hg5] at hg6
                injection hg6 with hg6
                injection hg6 with hg6
                subst hg6
                exact ⟨q1, (A10.out.below bb).ch.c1, r0, r1⟩
              have FCT := hid fact
              obtain ⟨FV, hFV⟩ : ∃ FV, foldA (hs.getD M 0 : Int) (pmC ((told hs).take b)) (H.take b) ((told hs)[b].1 : Int) ((told hs)[b].2 : Int) = FV := ⟨_, rfl⟩
              rw [hFV] at k6 hfn'
              obtain ⟨fs, fe⟩ := FV
              unfold Hid at FCT
              generalize (hs.getD M 0 : Int) = zM at *
              generalize ((told hs)[b].1 : Int) = sx at *
              generalize ((told hs)[b].2 : Int) = sy at *
              have FCT := hid FCT
              obtain ⟨W1, hW1⟩ : ∃ W1 : ByteArray, sv (Tree.root (Til.sg L (told hs)[b].1 (told hs)[b].2)) = .string W1 := ⟨_, rfl⟩
              rw [hW1] at f7 hcell
              have hfe : ¬ fe = 0 := hfn'
              have q2 : (fe == 0) = false := by simpa using hfe
              have y1 : (W1.toList == W1.toList) = true := by simp
              have y2 : (W1.toList != W1.toList) = false := by simp
              have u1 : IntKind.i64.wrap ((j : Int) - 1) = (M : Int) := v1
              have u2 : (M : Int) < (j : Int) := by have := HMM.out; omega
              have u3 : (0 : Int) ≤ (M : Int) := by omega
              have u4 : (b : Int) ≤ (sc : Int) := by omega
              have u5 : (b : Int) ≤ (k : Int) := by omega
              have HC := hid (fun w' (bb : Below wr.heap.size wr w') => (bb.cell (p := ⟨G, b, none⟩) AW.row.lt).trans hcell)
              have K6 := hid k6
              subst hg5
              clear hfn hfn' hFV fact k6 hK5 hlK hlH hcan hHb hs5 AW hW1 hcell
              go_wp2_with (go_at_call 21; refine f7.mono ?_; rintro r w11 ⟨rfl, b11⟩; have B11 := hid (hBw.out.trans (b11.mono hBw.out.size)); have hc11 := HC.out _ b11; have x0 := FCT.out _ B11.out; have c11 := x0.2.1; have k7 := K6.out w11.drew B11.out.drew; clear b11)
              go_region_held3 (fun w' => w'.cell? (x.add M) = some (.int .i64 zM) ∧ w'.cell? ⟨c, 1, none⟩ = some (.slice (some ⟨G, 0, none⟩) k k) ∧ w'.cell? ⟨g5, b * 2, none⟩ = some (.int .i64 sx) ∧ w'.cell? ⟨g5, b * 2 + 1, none⟩ = some (.int .i64 sy)) (first | exact x1 | exact x0) (first | (go_at_call 22; refine k7.mono ?_; rintro r w12 ⟨rfl, b12⟩; have b12 := drewBelow8 b12; have B12 := hid (B11.out.trans (b12.mono B11.out.size)); have x1 := FCT.out _ B12.out; clear b12))
              go_wp2
              exact ⟨⟨b + 1, by omega, by go_num, B12⟩, by simp [intOf]; omega⟩
            · obtain rfl : b = k := by omega
              have e1 : ¬ (b : Int) < (b : Int) := by omega
              have AA := A10.out.below hBw.out
              have c0 := AA.ch.c0
              have c1 := AA.ch.c1
              have k5 := K4.out _ hBw.out
              have al1 : (b : Int) ≤ (AL : Int) := by omega
              clear AA
              go_wp2_with (go_at_call 16; refine k5.mono ?_; rintro r w12 ⟨rfl, b12⟩; have B12 := hid (BB.out.trans ((hBw.out.trans (b12.mono hBw.out.size)).mono BB.out.size)); clear b12)
              go_ret
              exact ⟨rfl, B12.out⟩
end Chn
end Go.Proofs.YtappjeepajjioaaGreatDoor
