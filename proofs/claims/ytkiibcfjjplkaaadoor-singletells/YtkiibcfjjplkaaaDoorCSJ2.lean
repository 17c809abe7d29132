import Derived.Test.YtkiibcfjjplkaaaDoorCSJ1
import Derived.Test.YtkiibcfjjplkaaaDoorCO23
import Derived.RegionTactic
import Derived.ChangeAlike
namespace Go.Proofs.YtkiibcfjjplkaaaDoor
open Go.RowKit Go.Shelf
/-- a mark -/
def mkB (i : Nat) : ByteArray := ByteArray.mk #[109, 97, 114, 107] ++ ByteArray.mk #[UInt8.ofNat i]
def mkS (i : Nat) : Value := .string (mkB i)
theorem conv_at (n : Nat) (hn : n ≤ 255) (W : World) (H : Nat) (hX : W.heap[H]? = some (.cells #[.int .u8 (n : Int)] 5 (0, 0))) : (convert 74 9 (.slice (some ⟨H, 0, none⟩) 1 1)).run Tryd.prog W = .ok (.string ⟨#[UInt8.ofNat n]⟩) W := by
  refine run_conv_bytes (P := Tryd.prog) _ 74 9 5 H 0 1 1 [UInt8.ofNat n] rfl Tryd.underlying74 Tryd.underlying5 Tryd.underlying9 ?_
  intro j v hv
  match j, hv with
  | 0, hv =>
    have e : v = .int .u8 (n : Int) := by
      simp [bv] at hv
      rw [← hv]; congr 1; omega
    rw [e, cell_of_row _ _ _ _ _ _ hX]; rfl
  | j + 1, hv => simp [bv] at hv
/-- the first k cells of the i-th list are marks -/
def fst (l : List Value) (k : Nat) (u : Value) : Prop := ∀ t, t < k → l[t]? = some u
theorem fst_all {l : List Value} {u : Value} (h : fst l l.length u) : l = List.replicate l.length u := by
  apply List.ext_getElem?
  intro t
  rw [List.getElem?_replicate]
  split
  · next ht => exact h t ht
  · next ht => exact List.getElem?_eq_none (by omega)
theorem fst_set {l : List Value} {k : Nat} {u : Value} (h : fst l k u) (hk : k < l.length) : fst (l.set k u) (k + 1) u := fun t ht => by
  rw [List.getElem?_set]
  split
  · next e => subst e; first | rfl | (rw [if_pos hk])
  · next e => exact h t (by omega)
theorem infoTx : (Tryd.prog.info? 28).map (fun i => (i.zero, i.size, i.bytes)) = some (some (.slice none 0 0), 1, 24) := by kernel_rfl
theorem infoI11 : (Tryd.prog.info? 3).map (fun i => (i.zero, i.size, i.bytes)) = some (some (.int .i64 0), 1, 8) := by kernel_rfl
theorem infoS11 : (Tryd.prog.info? 9).map (fun i => (i.zero, i.size, i.bytes)) = some (some (.string ⟨#[]⟩), 1, 16) := by kernel_rfl
theorem append_txs (w : World) (v : Value) (ls : List Value) (a : Option Addr) (n c : Nat) (h : OwnM 1 w v ls.length ls) (hl : ls.length ≤ 1000000) :
    ∃ v' w', (Builtin.append_ #[51, 51] 51 #[v, .slice (some ⟨w.heap.size, 0, none⟩) 1 1]).run Tryd.prog (w.alloc (.cells #[.slice a n c] 28)) = .ok v' w' ∧ OwnM 1 w' v' (ls.length + 1) (ls ++ [.slice a n c]) ∧ Grow w w' v v' :=
  append_oneL 51 28 _ 24 Tryd.underlying51 infoTx rfl w v ls.length ls [.slice a n c] rfl (fun u hu => by
    simp only [List.mem_cons, List.not_mem_nil, or_false] at hu
    subst hu; rfl) h (by omega) (by rw [maxLen]; omega)
theorem append_wh (w : World) (v : Value) (n : Nat) (h : OwnM 1 w v n (whs n)) (hl : n ≤ 1000000) :
    ∃ v' w', (Builtin.append_ #[22, 22] 22 #[v, .slice (some ⟨w.heap.size, 0, none⟩) 1 1]).run Tryd.prog (w.alloc (.cells #[.int .i64 ((n / 40 : Nat) : Int)] 3)) = .ok v' w' ∧ OwnM 1 w' v' (n + 1) (whs (n + 1)) ∧ Grow w w' v v' := by
  rw [whs_succ]
  exact append_oneL 22 3 _ 8 Tryd.underlying22 infoI11 rfl w v n (whs n) [.int .i64 ((n / 40 : Nat) : Int)] rfl (fun u hu => by
    simp only [List.mem_cons, List.not_mem_nil, or_false] at hu
    subst hu; rfl) h (by omega) (by rw [maxLen]; omega)
theorem append_mS (w : World) (v : Value) (n i : Nat) (h : OwnM 1 w v n (List.replicate n (mkS i))) (hl : n ≤ 3000000) :
    ∃ v' w', (Builtin.append_ #[28, 28] 28 #[v, .slice (some ⟨w.heap.size, 0, none⟩) 1 1]).run Tryd.prog (w.alloc (.cells #[mkS i] 9)) = .ok v' w' ∧ OwnM 1 w' v' (n + 1) (List.replicate (n + 1) (mkS i)) ∧ Grow w w' v v' := by
  rw [List.replicate_succ']
  exact append_oneL 28 9 _ 16 Tryd.underlying28 infoS11 rfl w v n (List.replicate n (mkS i)) [mkS i] rfl (fun u hu => by
    simp only [List.mem_cons, List.not_mem_nil, or_false] at hu
    subst hu; rfl) h (by omega) (by rw [maxLen]; omega)
theorem keep_below {S0 : Nat → Prop} {w0 w w' : World} (h : Keep S0 w0 w) (hb : Below w.heap.size w w') : Keep S0 w0 w' :=
  ⟨hb.os.trans h.os, hb.tape.trans h.tape, hb.output.trans h.output, Nat.le_trans h.size hb.size, fun k h1 h2 => (hb.block k (Nat.lt_of_lt_of_le h1 h.size)).trans (h.block k h1 h2)⟩
set_option maxRecDepth 100000 in
set_option maxHeartbeats 4000000 in
theorem owned11_any (S0 : Nat → Prop) (w : World) (gl N cl : Nat) (vs : List Value) (cs0 : Nat → List Value) (ρ0 : Nat → Nat) (h : Ow S0 w gl vs mkS 0 cs0 ρ0 w (.slice none 0 0) [] (.slice none 0 0) 0) (hN : vs.length = N) (hN2 : N ≤ 100) (hc : ∀ j, (cs0 j).length ≤ 2000000) :
    Calls Tryd.prog 27 #[.slice (some ⟨gl, 0, none⟩) N cl] w fun r w' => r = .returned (.bool true) ∧ Keep S0 w w' := by
  have H0 := hid h
  have HN := hid hN
  have HC := hid hc
  clear h hN hc
  go_enter Tryd.func27, Tryd.ntmps27
  go_wp2
  go_loopw [3, 4] (fun i _ w' => ∃ (I : Nat) (cs : Nat → List Value) (ρ : Nat → Nat), I ≤ N ∧ i = .int .i64 (I : Int) ∧ Hid (Ow S0 w gl vs mkS 0 cs ρ w' (.slice none 0 0) [] (.slice none 0 0) 0) ∧ Hid (∀ j, (cs j).length = (cs0 j).length) ∧ Hid (∀ j, j < I → cs j = List.replicate (cs j).length (mkS j))) (fun i _ _ => N - (intOf i).toNat)
  case atStart => exact ⟨0, cs0, ρ0, by omega, rfl, H0, hid (fun _ => rfl), hid (fun j hj => by omega)⟩
  case round =>
    clear H0
    obtain ⟨I, cs, ρ, hI, rfl, hO, hL, hF⟩ := hrel
    by_cases hIN : I < N
    · have b0 : (I : Int) < (N : Int) := by omega
      have j0 : (0 : Int) ≤ (I : Int) := by omega
      obtain ⟨v, hv⟩ : ∃ v, vs[I]? = some v := ⟨_, List.getElem?_eq_getElem (by rw [HN.out]; exact hIN)⟩
      have HV := hid hv
      obtain ⟨n, hn⟩ : ∃ n, (cs I).length = n := ⟨_, rfl⟩
      have hn2 : n ≤ 2000000 := by rw [← hn, hL.out I]; exact HC.out I
      obtain ⟨a, c, hsh, _, _⟩ := (hO.out.own I v (Nat.zero_le _) hv).1.shape
      rw [hn] at hsh
      subst hsh
      have HNl := hid hn
      clear hn hv
      go_wp2
      go_loopw [4] (fun k w' => ∃ (K : Nat) (cs' : Nat → List Value) (ρ' : Nat → Nat), K ≤ n ∧ k = .int .i64 (K : Int) ∧ Hid (Ow S0 w gl vs mkS 0 cs' ρ' w' (.slice none 0 0) [] (.slice none 0 0) 0) ∧ Hid (∀ j, (cs' j).length = (cs0 j).length) ∧ Hid (∀ j, j < I → cs' j = List.replicate (cs' j).length (mkS j)) ∧ Hid (fst (cs' I) K (mkS I)) ∧ Hid ((cs' I).length = n)) (fun k _ => n - (intOf k).toNat)
      case atStart => exact ⟨0, cs, ρ, by omega, rfl, hO, hL, hF, hid (fun t ht => by omega), HNl⟩
      case round =>
        clear hO hL hF HNl
        obtain ⟨K, cs', ρ', hK, rfl, hO, hL, hF, hP, hnl⟩ := hrel
        have c0 := hO.out.gr I _ HV.out
        rw [Nat.zero_add] at c0
        have l0 := hO.out.lg
        by_cases hKn : K < n
        · have b1 : (K : Int) < (n : Int) := by omega
          have k0 : (0 : Int) ≤ (K : Int) := by omega
          obtain ⟨g, cg, eg, _⟩ := (hO.out.own I _ (Nat.zero_le _) HV.out).1.cell (List.getElem?_eq_getElem (show K < (cs' I).length by rw [hnl.out]; exact hKn))
          rw [hnl.out] at eg
          injection eg with e1 e2 e3
          subst e1
          subst e3
          obtain ⟨O2, ⟨y1, z1⟩, f1⟩ := hO.out.set (Nat.zero_le _) HV.out (by rw [hnl.out]; exact hKn) (mkS I)
          have hb1 := (Below.refl wr.heap.size wr).alloc (Nat.le_refl _) (.cells #[.int .u8 (I : Int)] 5)
          have hb2 : Below (wr.setCell ⟨g, K, none⟩ (mkS I)).heap.size (wr.setCell ⟨g, K, none⟩ (mkS I)) ((wr.setCell ⟨g, K, none⟩ (mkS I)).alloc (.cells #[.int .u8 (I : Int)] 5)).drew := ((Below.refl _ _).alloc (Nat.le_refl _) _).drew
          have HO2 := hid (O2.below hb2)
          have g0 : g < wr.heap.size := block_lt_of_cell z1
          have hcv : (convert 74 9 (.slice (some ⟨wr.heap.size, 0, none⟩) 1 1)).run Tryd.prog (wr.alloc (.cells #[.int .u8 (I : Int)] 5)).drew = .ok (.string ⟨#[UInt8.ofNat I]⟩) (wr.alloc (.cells #[.int .u8 (I : Int)] 5)).drew := conv_at I (by omega) _ _ (heap_alloc_new wr _)
          have c2 : (wr.alloc (.cells #[.int .u8 (I : Int)] 5)).drew.cell? ⟨gl, I, none⟩ = _ := (hb1.cell (p := ⟨gl, I, none⟩) l0).trans c0
          have z2 : (wr.alloc (.cells #[.int .u8 (I : Int)] 5)).drew.cell? ⟨g, K, none⟩ = _ := (hb1.cell (p := ⟨g, K, none⟩) g0).trans z1
          have f2 : (wr.alloc (.cells #[.int .u8 (I : Int)] 5)).drew.frozen? ⟨g, K, none⟩ = false := (World.frozen?_of_block (a := ⟨g, K, none⟩) (hb1.block g g0)).trans f1
          clear hO O2 hb1 hb2
          go_wp2
          go_region
          go_wp2
          refine ⟨⟨K + 1, (fun j => if j = I then (cs' I).set K (mkS I) else cs' j), _, by omega, by go_num, HO2, hid (fun j => ?_), hid (fun j hj => ?_), hid ?_, hid ?_⟩, by simp [intOf]; omega⟩
          · show ((if j = I then (cs' I).set K (mkS I) else cs' j) : List Value).length = _
            by_cases e : j = I
            · rw [if_pos e, List.length_set, e]; exact hL.out I
            · rw [if_neg e]; exact hL.out j
          · show ((if j = I then (cs' I).set K (mkS I) else cs' j) : List Value) = List.replicate ((if j = I then (cs' I).set K (mkS I) else cs' j) : List Value).length (mkS j)
            rw [if_neg (by omega)]; exact hF.out j hj
          · show fst (if I = I then (cs' I).set K (mkS I) else cs' I) (K + 1) (mkS I)
            rw [if_pos rfl]; exact fst_set hP.out (by rw [hnl.out]; exact hKn)
          · show ((if I = I then (cs' I).set K (mkS I) else cs' I) : List Value).length = n
            rw [if_pos rfl, List.length_set]; exact hnl.out
        · obtain rfl : K = n := by omega
          have b1 : ¬ (K : Int) < (K : Int) := by omega
          go_wp2
          refine ⟨⟨I + 1, cs', ρ', by omega, by go_num, hO, hL, hid (fun j hj => ?_)⟩, by simp [intOf]; omega⟩
          by_cases e : j = I
          · rw [e]; exact fst_all (by rw [hnl.out]; exact hP.out)
          · exact hF.out j (by omega)
    · obtain rfl : I = N := by omega
      have b0 : ¬ (I : Int) < (I : Int) := by omega
      go_wp2
      go_loopw [5, 6, 7, 8, 9] (fun va vw i _ _ w' => ∃ (J : Nat) (ρ' : Nat → Nat) (ls : List Value), J ≤ I ∧ i = .int .i64 (J : Int) ∧ ls.length = 40 * J ∧ Hid (Ow S0 w gl vs mkS J cs ρ' w' va ls vw (40 * J))) (fun _ _ i _ _ _ => I - (intOf i).toNat)
      case atStart => exact ⟨0, ρ, [], by omega, rfl, rfl, hO⟩
      case round =>
        clear hO
        obtain ⟨J, ρ2, ls, hJ, rfl, hll, hO⟩ := hrel
        by_cases hJI : J < I
        · have b1 : (J : Int) < (I : Int) := by omega
          have j1 : (0 : Int) ≤ (J : Int) := by omega
          obtain ⟨v, hv⟩ : ∃ v, vs[J]? = some v := ⟨_, List.getElem?_eq_getElem (by rw [HN.out]; exact hJI)⟩
          have c0 := hO.out.gr J _ hv
          rw [Nat.zero_add] at c0
          have X0 := hid (hO.out.take hv (hF.out J hJI) hll)
          obtain ⟨n, hn⟩ : ∃ n, (cs J).length = n := ⟨_, rfl⟩
          have hn2 : n ≤ 2000000 := by rw [← hn, hL.out J]; exact HC.out J
          rw [hn] at X0
          clear hO hv hn
          go_wp2
          go_loopw [5, 6, 8, 9] (fun va vw x k w' => ∃ (q m : Nat) (ρ' : Nat → Nat) (ls : List Value), q ≤ 40 ∧ k = .int .i64 (q : Int) ∧ m ≤ 2000000 + q ∧ Hid (Ox S0 w gl vs mkS J q m cs ρ' w' va ls vw (40 * J + q) x)) (fun _ _ _ k _ => 40 - (intOf k).toNat)
          case atStart => exact ⟨0, n, ρ2, ls, by omega, rfl, by omega, X0⟩
          case round =>
            clear X0
            obtain ⟨q, m, ρ3, ls3, hq, rfl, hm, hX⟩ := hrel
            by_cases hq40 : q < 40
            · have b2 : (q : Int) < 40 := by omega
              obtain ⟨xa, xc, hxe, _, _⟩ := hX.out.ox.shape
              subst hxe
              obtain ⟨va1, w1, hap1, o1, g1⟩ := append_txs wr _ ls3 xa m xc hX.out.b.oa (by rw [hX.out.ll]; omega)
              have X1 := hX.out.pushA hq40 g1 o1
              have hd : (40 * J + q) / 40 = J := by omega
              obtain ⟨vw1, w2, hap2, o2, g2⟩ := append_wh w1 _ (40 * J + q) X1.b.ow (by omega)
              rw [hd] at hap2
              have X2 := X1.pushW g2 o2
              have X3 := X2.below ((Below.refl _ w2).alloc (Nat.le_refl _) (.cells #[.int .u8 (J : Int)] 5))
              obtain ⟨x3, w3, hap3, o3, g3⟩ := append_mS (w2.alloc (.cells #[.int .u8 (J : Int)] 5)) _ m J X3.ox (by omega)
              have X4 := hid (X3.grow g3 o3)
              have hcv := conv_at J (by omega) _ _ (heap_alloc_new w2 (.cells #[.int .u8 (J : Int)] 5))
              clear hX X1 X2 X3 o1 g1 o2 g2 o3 g3
              unfold mkS mkB at hap3
              rw [size_alloc] at hap3
              go_wp2_with (first
                | (at_builtin; refine Lib.wpList_append_run _ rfl _ _ 51 51 rfl _ _ rfl rfl _ _ hap1 ?_)
                | (at_builtin; refine Lib.wpList_append_run _ rfl _ _ 22 22 rfl _ _ rfl rfl _ _ hap2 ?_)
                | (at_builtin; refine Lib.wpList_append_run _ rfl _ _ 28 28 rfl _ _ rfl rfl _ _ hap3 ?_))
              exact ⟨⟨q + 1, m + 1, _, _, by omega, by go_num, by omega, X4⟩, by simp [intOf]; omega⟩
            · obtain rfl : q = 40 := by omega
              have b2 : ¬ (40 : Int) < 40 := by omega
              have hX1 := hX.out.b
              have hl2 := hX.out.ll
              go_wp2
              exact ⟨⟨J + 1, ρ3, ls3, by omega, by go_num, by omega, hid (by rw [show 40 * (J + 1) = 40 * J + 40 by omega]; exact hX1)⟩, by simp [intOf]; omega⟩
        · obtain rfl : J = I := by omega
          have b1 : ¬ (J : Int) < (J : Int) := by omega
          obtain ⟨Z, hZ⟩ : ∃ Z, 40 * J = Z := ⟨_, rfl⟩
          rw [hZ] at hll hO
          have hZ2 : Z ≤ 4000 := by omega
          obtain ⟨wE, hwE⟩ : ∃ wE, wr = wE := ⟨_, rfl⟩
          rw [hwE] at hO ⊢
          clear hwE
          obtain ⟨aa, ca, hae, _, _⟩ := hO.out.oa.shape
          obtain ⟨aw, cw, hwe, _, _⟩ := hO.out.ow.shape
          subst hae
          subst hwe
          have hcA := hid (fun (T : Nat) (u : Value) (e : ls[T]? = some u) => hO.out.oa.cell e)
          have hcW := hid (fun (T : Nat) (hT : T < Z) => hO.out.ow.cell (whs_at hT))
          have hMk := hid (fun (T : Nat) (u : Value) (e : ls[T]? = some u) => (hO.out.mrk T u e).1)
          have HK := hid hO.out.kp
          have HL2 := hid hll
          rw [hll]
          clear hO
          go_wp2
          go_loopw [10, 11] (fun i _ w' => ∃ T : Nat, T ≤ Z ∧ i = .int .i64 (T : Int) ∧ Hid (Below wE.heap.size wE w')) (fun i _ _ => Z - (intOf i).toNat)
          case atStart => exact ⟨0, by omega, rfl, Below.refl _ _⟩
          case round =>
            obtain ⟨T, hT, rfl, hB⟩ := hrel
            by_cases hTZ : T < Z
            · have b2 : (T : Int) < (Z : Int) := by omega
              have t0 : (0 : Int) ≤ (T : Int) := by omega
              obtain ⟨u, hu⟩ : ∃ u, ls[T]? = some u := ⟨_, List.getElem?_eq_getElem (by rw [HL2.out]; exact hTZ)⟩
              obtain ⟨ga, ca', e1, d1, la⟩ := hcA.out T u hu
              injection e1 with e1 _ _
              subst e1
              obtain ⟨gw, cw', e2, d2, lw⟩ := hcW.out T hTZ
              injection e2 with e2 _ _
              subst e2
              obtain ⟨a, n, cc, rfl, hn, hM⟩ := hMk.out T u hu
              have HM := hid hM
              obtain ⟨o, ho⟩ : ∃ o, T / 40 = o := ⟨_, rfl⟩
              have ho2 : o ≤ 255 := by omega
              rw [ho] at HM d2
              have dr := (hB.out.cell (p := ⟨ga, T, none⟩) la).trans d1
              clear hM hu ho
              go_wp2
              go_loopw [11] (fun k w' => ∃ K : Nat, K ≤ n ∧ k = .int .i64 (K : Int) ∧ Hid (Below wE.heap.size wE w')) (fun k _ => n - (intOf k).toNat)
              case atStart => exact ⟨0, by omega, rfl, hB⟩
              case round =>
                clear dr hB
                obtain ⟨K, hK, rfl, hB⟩ := hrel
                have c1 := (hB.out.cell (p := ⟨ga, T, none⟩) la).trans d1
                have c2 := (hB.out.cell (p := ⟨gw, T, none⟩) lw).trans d2
                by_cases hKn : K < n
                · have b3 : (K : Int) < (n : Int) := by omega
                  have k0 : (0 : Int) ≤ (K : Int) := by omega
                  obtain ⟨g, hga, gl', c3'⟩ := HM.out K hKn
                  subst hga
                  have c3 := (hB.out.cell (p := ⟨g, K, none⟩) gl').trans c3'
                  have l1 := block_lt_of_cell c1
                  have l2 := block_lt_of_cell c2
                  have l3 := block_lt_of_cell c3
                  have hb1 := (Below.refl wr.heap.size wr).alloc (Nat.le_refl _) (.cells #[.int .u8 (o : Int)] 5)
                  have hb2 := hid (show Below wE.heap.size wE (wr.alloc (.cells #[.int .u8 (o : Int)] 5)).drew from (hB.out.trans (hb1.mono hB.out.size)).drew)
                  have hcv : (convert 74 9 (.slice (some ⟨wr.heap.size, 0, none⟩) 1 1)).run Tryd.prog (wr.alloc (.cells #[.int .u8 (o : Int)] 5)).drew = .ok (.string ⟨#[UInt8.ofNat o]⟩) (wr.alloc (.cells #[.int .u8 (o : Int)] 5)).drew := conv_at o ho2 _ _ (heap_alloc_new wr _)
                  have e1 : (wr.alloc (.cells #[.int .u8 (o : Int)] 5)).drew.cell? ⟨ga, T, none⟩ = _ := (hb1.cell (p := ⟨ga, T, none⟩) l1).trans c1
                  have e2 : (wr.alloc (.cells #[.int .u8 (o : Int)] 5)).drew.cell? ⟨gw, T, none⟩ = _ := (hb1.cell (p := ⟨gw, T, none⟩) l2).trans c2
                  have e3 : (wr.alloc (.cells #[.int .u8 (o : Int)] 5)).drew.cell? ⟨g, K, none⟩ = _ := (hb1.cell (p := ⟨g, K, none⟩) l3).trans c3
                  unfold mkS mkB at c3 e3
                  have hrr : ((ByteArray.mk #[109, 97, 114, 107] ++ ByteArray.mk #[UInt8.ofNat o]).toList != (ByteArray.mk #[109, 97, 114, 107] ++ ByteArray.mk #[UInt8.ofNat o]).toList) = false := by simp
                  clear hb1
                  go_wp2
                  go_region
                  all_goals
                    go_wp2
                    exact ⟨⟨K + 1, by omega, by go_num, hb2⟩, by simp [intOf]; omega⟩
                · obtain rfl : K = n := by omega
                  have b3 : ¬ (K : Int) < (K : Int) := by omega
                  go_wp2
                  first
                    | exact ⟨⟨T + 1, by omega, by go_num, hB⟩, by simp [intOf]; omega⟩
                    | exact ⟨⟨T + 1, by omega, by omega⟩, by simp [intOf]; omega⟩
            · obtain rfl : T = Z := by omega
              have b2 : ¬ (T : Int) < (T : Int) := by omega
              go_wp2
              go_ret
              exact ⟨rfl, keep_below HK.out hB.out⟩
end Go.Proofs.YtkiibcfjjplkaaaDoor
