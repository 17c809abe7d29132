import Derived.Test.YtmpaliocfikifaaGreatDoorCBS3
import Derived.Test.YtmpaliocfikifaaGreatDoorCO36
import Derived.Test.YtmpaliocfikifaaGreatDoorCO54
import Derived.Test.YtmpaliocfikifaaGreatDoorCBL2
import Derived.Test.YtmpaliocfikifaaGreatDoorCBP10
namespace Go.Proofs.YtmpaliocfikifaaGreatDoor
open Go.RowKit Go.Shelf
namespace Bat
namespace In
/-- a mark -/
def mkI (i : Nat) : Value := .int .i64 (-100 - (i : Int))
/-- the first k cells of the i-th list are marks -/
def fst (l : List Value) (k : Nat) (u : Value) : Prop := ∀ t, t < k → l[t]? = some u
theorem fst_all {l : List Value} {u : Value} (h : fst l l.length u) : l = List.replicate l.length u := by
  apply List.ext_getElem?
  intro t
  rw [List.getElem?_replicate]
  split
  · next ht => exact h t ht
  · next ht => exact List.getElem?_eq_none (by omega)
theorem fst_set {l : List Value} {k : Nat} {u : Value} (h : fst l k u) (hk : k < l.length) : fst (l.set k u) (k + 1) u := fun t ht => by
  rw [List.getElem?_set]
  split
  · next e => subst e; first | rfl | (rw [if_pos hk])
  · next e => exact h t (by omega)
theorem infoIs : (Tryz.prog.info? 22).map (fun i => (i.zero, i.size, i.bytes)) = some (some (.slice none 0 0), 1, 24) := by kernel_rfl
theorem append_iss (w : World) (v : Value) (ls : List Value) (a : Option Addr) (n c : Nat) (h : OwnM 1 w v ls.length ls) (hl : ls.length ≤ 1000000) :
    ∃ v' w', (Builtin.append_ #[41, 41] 41 #[v, .slice (some ⟨w.heap.size, 0, none⟩) 1 1]).run Tryz.prog (w.alloc (.cells #[.slice a n c] 22)) = .ok v' w' ∧ OwnM 1 w' v' (ls.length + 1) (ls ++ [.slice a n c]) ∧ Grow w w' v v' :=
  append_oneL 41 22 _ 24 Tryz.underlying41 infoIs rfl w v ls.length ls [.slice a n c] rfl (fun u hu => by
    simp only [List.mem_cons, List.not_mem_nil, or_false] at hu
    subst hu; rfl) h (by omega) (by rw [maxLen]; omega)
theorem append_mI (w : World) (v : Value) (n i : Nat) (h : OwnM 1 w v n (List.replicate n (mkI i))) (hl : n ≤ 3000000) :
    ∃ v' w', (Builtin.append_ #[22, 22] 22 #[v, .slice (some ⟨w.heap.size, 0, none⟩) 1 1]).run Tryz.prog (w.alloc (.cells #[mkI i] 3)) = .ok v' w' ∧ OwnM 1 w' v' (n + 1) (List.replicate (n + 1) (mkI i)) ∧ Grow w w' v v' := by
  rw [List.replicate_succ']
  exact append_oneL 22 3 _ 8 Tryz.underlying22 infoBl rfl w v n (List.replicate n (mkI i)) [mkI i] rfl (fun u hu => by
    simp only [List.mem_cons, List.not_mem_nil, or_false] at hu
    subst hu; rfl) h (by omega) (by rw [maxLen]; omega)
theorem keep_belowI {S0 : Nat → Prop} {w0 w w' : World} (h : Keep S0 w0 w) (hb : Below w.heap.size w w') : Keep S0 w0 w' :=
  ⟨hb.os.trans h.os, hb.tape.trans h.tape, hb.output.trans h.output, Nat.le_trans h.size hb.size, fun k h1 h2 => (hb.block k (Nat.lt_of_lt_of_le h1 h.size)).trans (h.block k h1 h2)⟩
set_option maxRecDepth 100000 in
set_option maxHeartbeats 4000000 in
theorem ints_any (S0 : Nat → Prop) (w : World) (gl N cl : Nat) (vs : List Value) (cs0 : Nat → List Value) (ρ0 : Nat → Nat) (h : Ow S0 w gl vs mkI 0 cs0 ρ0 w (.slice none 0 0) [] (.slice none 0 0) 0) (hN : vs.length = N) (hN2 : N ≤ 100) (hc : ∀ j, (cs0 j).length ≤ 2000000) :
    Calls Tryz.prog 22 #[.slice (some ⟨gl, 0, none⟩) N cl] w fun r w' => r = .returned (.bool true) ∧ Keep S0 w w' := by
  have H0 := hid h
  have HN := hid hN
  have HC := hid hc
  clear h hN hc
  go_enter Tryz.func22, Tryz.ntmps22
  go_wp2
  go_loopw [3, 4] (fun i _ w' => ∃ (I : Nat) (cs : Nat → List Value) (ρ : Nat → Nat), I ≤ N ∧ i = .int .i64 (I : Int) ∧ Hid (Ow S0 w gl vs mkI 0 cs ρ w' (.slice none 0 0) [] (.slice none 0 0) 0) ∧ Hid (∀ j, (cs j).length = (cs0 j).length) ∧ Hid (∀ j, j < I → cs j = List.replicate (cs j).length (mkI j))) (fun i _ _ => N - (intOf i).toNat)
  case atStart => exact ⟨0, cs0, ρ0, by omega, rfl, H0, hid (fun _ => rfl), hid (fun j hj => by omega)⟩
  case round =>
    clear H0
    obtain ⟨I, cs, ρ, hI, rfl, hO, hL, hF⟩ := hrel
    by_cases hIN : I < N
    · have b0 : (I : Int) < (N : Int) := by omega
      have j0 : (0 : Int) ≤ (I : Int) := by omega
      obtain ⟨v, hv⟩ : ∃ v, vs[I]? = some v := ⟨_, List.getElem?_eq_getElem (by rw [HN.out]; exact hIN)⟩
      have HV := hid hv
      obtain ⟨n, hn⟩ : ∃ n, (cs I).length = n := ⟨_, rfl⟩
      have hn2 : n ≤ 2000000 := by rw [← hn, hL.out I]; exact HC.out I
      obtain ⟨a, c, hsh, _, _⟩ := (hO.out.own I v (Nat.zero_le _) hv).1.shape
      rw [hn] at hsh
      subst hsh
      have HNl := hid hn
      clear hn hv
      go_wp2
      go_loopw [4] (fun k w' => ∃ (K : Nat) (cs' : Nat → List Value) (ρ' : Nat → Nat), K ≤ n ∧ k = .int .i64 (K : Int) ∧ Hid (Ow S0 w gl vs mkI 0 cs' ρ' w' (.slice none 0 0) [] (.slice none 0 0) 0) ∧ Hid (∀ j, (cs' j).length = (cs0 j).length) ∧ Hid (∀ j, j < I → cs' j = List.replicate (cs' j).length (mkI j)) ∧ Hid (fst (cs' I) K (mkI I)) ∧ Hid ((cs' I).length = n)) (fun k _ => n - (intOf k).toNat)
      case atStart => exact ⟨0, cs, ρ, by omega, rfl, hO, hL, hF, hid (fun t ht => by omega), HNl⟩
      case round =>
        clear hO hL hF HNl
        obtain ⟨K, cs', ρ', hK, rfl, hO, hL, hF, hP, hnl⟩ := hrel
        have c0 := hO.out.gr I _ HV.out
        rw [Nat.zero_add] at c0
        have l0 := hO.out.lg
        by_cases hKn : K < n
        · have b1 : (K : Int) < (n : Int) := by omega
          have k0 : (0 : Int) ≤ (K : Int) := by omega
          obtain ⟨g, cg, eg, _⟩ := (hO.out.own I _ (Nat.zero_le _) HV.out).1.cell (List.getElem?_eq_getElem (show K < (cs' I).length by rw [hnl.out]; exact hKn))
          rw [hnl.out] at eg
          injection eg with e1 e2 e3
          subst e1
          subst e3
          obtain ⟨O2, ⟨y1, z1⟩, f1⟩ := hO.out.set (Nat.zero_le _) HV.out (by rw [hnl.out]; exact hKn) (mkI I)
          have HO2 := hid O2
          have hwI : IntKind.i64.wrap (-100 - (I : Int)) = -100 - (I : Int) := by rw [IntKind.wrap_i64]; omega
          unfold mkI at HO2
          clear hO O2
          go_wp2
          refine ⟨⟨K + 1, (fun j => if j = I then (cs' I).set K (mkI I) else cs' j), _, by omega, by go_num, HO2, hid (fun j => ?_), hid (fun j hj => ?_), hid ?_, hid ?_⟩, by simp [intOf]; omega⟩
          · show ((if j = I then (cs' I).set K (mkI I) else cs' j) : List Value).length = _
            by_cases e : j = I
            · rw [if_pos e, List.length_set, e]; exact hL.out I
            · rw [if_neg e]; exact hL.out j
          · show ((if j = I then (cs' I).set K (mkI I) else cs' j) : List Value) = List.replicate ((if j = I then (cs' I).set K (mkI I) else cs' j) : List Value).length (mkI j)
            rw [if_neg (by omega)]; exact hF.out j hj
          · show fst (if I = I then (cs' I).set K (mkI I) else cs' I) (K + 1) (mkI I)
            rw [if_pos rfl]; exact fst_set hP.out (by rw [hnl.out]; exact hKn)
          · show ((if I = I then (cs' I).set K (mkI I) else cs' I) : List Value).length = n
            rw [if_pos rfl, List.length_set]; exact hnl.out
        · obtain rfl : K = n := by omega
          have b1 : ¬ (K : Int) < (K : Int) := by omega
          go_wp2
          refine ⟨⟨I + 1, cs', ρ', by omega, by go_num, hO, hL, hid (fun j hj => ?_)⟩, by simp [intOf]; omega⟩
          by_cases e : j = I
          · rw [e]; exact fst_all (by rw [hnl.out]; exact hP.out)
          · exact hF.out j (by omega)
    · obtain rfl : I = N := by omega
      have b0 : ¬ (I : Int) < (I : Int) := by omega
      go_wp2
      go_loopw [5, 6, 7, 8] (fun va i _ _ w' => ∃ (J : Nat) (ρ' : Nat → Nat) (ls : List Value), J ≤ I ∧ i = .int .i64 (J : Int) ∧ ls.length = 20 * J ∧ Hid (Ow S0 w gl vs mkI J cs ρ' w' va ls (.slice none 0 0) 0)) (fun _ i _ _ _ => I - (intOf i).toNat)
      case atStart => exact ⟨0, ρ, [], by omega, rfl, rfl, hO⟩
      case round =>
        clear hO
        obtain ⟨J, ρ2, ls, hJ, rfl, hll, hO⟩ := hrel
        by_cases hJI : J < I
        · have b1 : (J : Int) < (I : Int) := by omega
          have j1 : (0 : Int) ≤ (J : Int) := by omega
          obtain ⟨v, hv⟩ : ∃ v, vs[J]? = some v := ⟨_, List.getElem?_eq_getElem (by rw [HN.out]; exact hJI)⟩
          have c0 := hO.out.gr J _ hv
          rw [Nat.zero_add] at c0
          have X0 := hid (hO.out.take hv (hF.out J hJI) hll)
          obtain ⟨n, hn⟩ : ∃ n, (cs J).length = n := ⟨_, rfl⟩
          have hn2 : n ≤ 2000000 := by rw [← hn, hL.out J]; exact HC.out J
          rw [hn] at X0
          clear hO hv hn
          go_wp2
          go_loopw [5, 7, 8] (fun va x k w' => ∃ (q m : Nat) (ρ' : Nat → Nat) (ls : List Value), q ≤ 20 ∧ k = .int .i64 (q : Int) ∧ m ≤ 2000000 + q ∧ Hid (Ox S0 w gl vs mkI J q m cs ρ' w' va ls (.slice none 0 0) 0 x)) (fun _ _ k _ => 20 - (intOf k).toNat)
          case atStart => exact ⟨0, n, ρ2, ls, by omega, rfl, by omega, X0⟩
          case round =>
            clear X0
            obtain ⟨q, m, ρ3, ls3, hq, rfl, hm, hX⟩ := hrel
            by_cases hq40 : q < 20
            · have b2 : (q : Int) < 20 := by omega
              obtain ⟨xa, xc, hxe, _, _⟩ := hX.out.ox.shape
              subst hxe
              obtain ⟨va1, w1, hap1, o1, g1⟩ := append_iss wr _ ls3 xa m xc hX.out.b.oa (by rw [hX.out.ll]; omega)
              have X1 := hX.out.pushA hq40 g1 o1
              obtain ⟨x3, w3, hap3, o3, g3⟩ := append_mI w1 _ m J X1.ox (by omega)
              have X4 := hid (X1.grow g3 o3)
              have hwJ : IntKind.i64.wrap (-100 - (J : Int)) = -100 - (J : Int) := by rw [IntKind.wrap_i64]; omega
              clear hX X1 o1 g1 o3 g3
              unfold mkI at hap3
              go_wp2_with (first
                | (at_builtin; refine Lib.wpList_append_run _ rfl _ _ 41 41 rfl _ _ rfl rfl _ _ hap1 ?_)
                | (at_builtin; refine Lib.wpList_append_run _ rfl _ _ 22 22 rfl _ _ rfl rfl _ _ hap3 ?_))
              exact ⟨⟨q + 1, m + 1, _, _, by omega, by go_num, by omega, X4⟩, by simp [intOf]; omega⟩
            · obtain rfl : q = 20 := by omega
              have b2 : ¬ (20 : Int) < 20 := by omega
              have hX1 := hX.out.b
              have hl2 := hX.out.ll
              go_wp2
              exact ⟨⟨J + 1, ρ3, ls3, by omega, by go_num, by omega, hid hX1⟩, by simp [intOf]; omega⟩
        · obtain rfl : J = I := by omega
          have b1 : ¬ (J : Int) < (J : Int) := by omega
          obtain ⟨Z, hZ⟩ : ∃ Z, 20 * J = Z := ⟨_, rfl⟩
          rw [hZ] at hll
          have hZ2 : Z ≤ 4000 := by omega
          obtain ⟨wE, hwE⟩ : ∃ wE, wr = wE := ⟨_, rfl⟩
          rw [hwE] at hO ⊢
          clear hwE
          obtain ⟨aa, ca, hae, _, _⟩ := hO.out.oa.shape
          subst hae
          have hcA := hid (fun (T : Nat) (u : Value) (e : ls[T]? = some u) => hO.out.oa.cell e)
          have hMk := hid (fun (T : Nat) (u : Value) (e : ls[T]? = some u) => (hO.out.mrk T u e).1)
          have HK := hid hO.out.kp
          have HL2 := hid hll
          rw [hll]
          clear hO
          go_wp2
          go_loopw [9, 10] (fun i _ w' => ∃ T : Nat, T ≤ Z ∧ i = .int .i64 (T : Int) ∧ Hid (Below wE.heap.size wE w')) (fun i _ _ => Z - (intOf i).toNat)
          case atStart => exact ⟨0, by omega, rfl, Below.refl _ _⟩
          case round =>
            obtain ⟨T, hT, rfl, hB⟩ := hrel
            by_cases hTZ : T < Z
            · have b2 : (T : Int) < (Z : Int) := by omega
              have t0 : (0 : Int) ≤ (T : Int) := by omega
              obtain ⟨u, hu⟩ : ∃ u, ls[T]? = some u := ⟨_, List.getElem?_eq_getElem (by rw [HL2.out]; exact hTZ)⟩
              obtain ⟨ga, ca', e1, d1, la⟩ := hcA.out T u hu
              injection e1 with e1 _ _
              subst e1
              obtain ⟨a, n, cc, rfl, hn, hM⟩ := hMk.out T u hu
              have HM := hid hM
              obtain ⟨o, ho⟩ : ∃ o, T / 20 = o := ⟨_, rfl⟩
              have ho2 : o ≤ 255 := by omega
              rw [ho] at HM
              have hqo : Int.tdiv (T : Int) 20 = (o : Int) := by rw [← ho]; rfl
              have dr := (hB.out.cell (p := ⟨ga, T, none⟩) la).trans d1
              clear hM hu ho
              go_wp2
              go_loopw [10] (fun k w' => ∃ K : Nat, K ≤ n ∧ k = .int .i64 (K : Int) ∧ Hid (Below wE.heap.size wE w')) (fun k _ => n - (intOf k).toNat)
              case atStart => exact ⟨0, by omega, rfl, hB⟩
              case round =>
                clear dr hB
                obtain ⟨K, hK, rfl, hB⟩ := hrel
                have c1 := (hB.out.cell (p := ⟨ga, T, none⟩) la).trans d1
                by_cases hKn : K < n
                · have b3 : (K : Int) < (n : Int) := by omega
                  have k0 : (0 : Int) ≤ (K : Int) := by omega
                  obtain ⟨g, hga, gl', c3'⟩ := HM.out K hKn
                  subst hga
                  have c3 := (hB.out.cell (p := ⟨g, K, none⟩) gl').trans c3'
                  unfold mkI at c3
                  have hwo : IntKind.i64.wrap (-100 - (o : Int)) = -100 - (o : Int) := by rw [IntKind.wrap_i64]; omega
                  have hne : ((-100 - (o : Int)) != (-100 - (o : Int))) = false := by simp
                  go_wp2
                  exact ⟨⟨K + 1, by omega, by go_num, hB⟩, by simp [intOf]; omega⟩
                · obtain rfl : K = n := by omega
                  have b3 : ¬ (K : Int) < (K : Int) := by omega
                  go_wp2
                  first
                    | exact ⟨⟨T + 1, by omega, by go_num, hB⟩, by simp [intOf]; omega⟩
                    | exact ⟨⟨T + 1, by omega, by omega⟩, by simp [intOf]; omega⟩
            · obtain rfl : T = Z := by omega
              have b2 : ¬ (T : Int) < (T : Int) := by omega
              go_wp2
              go_ret
              exact ⟨rfl, keep_belowI HK.out hB.out⟩
end In
end Bat
end Go.Proofs.YtmpaliocfikifaaGreatDoor

namespace Go.Proofs.YtmpaliocfikifaaGreatDoor
open Go.RowKit Go.Shelf
namespace Bat
theorem own_m1 {w : World} {base : Nat} {v : Value} {cs : List Value} (h : Own w base v cs) : OwnM 1 w v cs.length cs := by
  rcases h with ⟨rfl, h⟩ | ⟨g, cap, rfl, h1, h2, h3, h4, h5, h6⟩
  · subst h; exact OwnM.nil 1 w
  · exact .inr ⟨g, cap, rfl, h2, h3, by rw [Nat.mul_one], h4, by rw [Nat.mul_one]; exact h5, h6⟩
/-- the book's blocks -/
def BkB (X : Nat) (vf vw : Value) (us cc : List Value) (k : Nat) : Prop := k = X ∨ vf.ownBlock = some k ∨ vw.ownBlock = some k ∨ (∃ (i : Nat) (u : Value), us[i]? = some u ∧ u.ownBlock = some k) ∨ ∃ (i : Nat) (c : Value), cc[i]? = some c ∧ c.ownBlock = some k
theorem bk_get {w : World} {X : Nat} {vf vw : Value} {us cc : List Value} {Ls : List (List (List UInt8))} (h : Bk w X vf vw us cc Ls) {i : Nat} {u : Value} (hu : us[i]? = some u) : ∃ L, Ls[i]? = some L := ⟨_, List.getElem?_eq_getElem (by have := (List.getElem?_eq_some_iff.1 hu).1; have := h.l1; omega)⟩
theorem bk_getC {w : World} {X : Nat} {vf vw : Value} {us cc : List Value} {Ls : List (List (List UInt8))} (h : Bk w X vf vw us cc Ls) {i : Nat} {u : Value} (hu : cc[i]? = some u) : ∃ L, Ls[i]? = some L := ⟨_, List.getElem?_eq_getElem (by have := (List.getElem?_eq_some_iff.1 hu).1; have := h.l2; omega)⟩
theorem bk_lt {w : World} {X : Nat} {vf vw : Value} {us cc : List Value} {Ls : List (List (List UInt8))} (h : Bk w X vf vw us cc Ls) {k : Nat} (hk : BkB X vf vw us cc k) : X ≤ k ∧ k < w.heap.size := by
  rcases hk with rfl | e | e | ⟨i, u, e1, e2⟩ | ⟨i, u, e1, e2⟩
  · exact ⟨Nat.le_refl _, lt_of_heap h.row⟩
  · exact ⟨h.free.ge k e, h.free.lt k e⟩
  · exact ⟨h.was.ge k e, h.was.lt k e⟩
  · obtain ⟨L, hL⟩ := bk_get h e1
    have := (h.own i u L e1 hL).1
    exact ⟨this.ge k e2, this.lt k e2⟩
  · obtain ⟨L, hL⟩ := bk_getC h e1
    have := h.cpy i u L e1 hL
    exact ⟨this.ge k e2, this.lt k e2⟩
theorem bk_keep {S : Nat → Prop} {w w' : World} {X : Nat} {vf vw : Value} {us cc : List Value} {Ls : List (List (List UInt8))} (h : Bk w X vf vw us cc Ls) (hk : Keep S w w') (hd : ∀ k, BkB X vf vw us cc k → ¬ S k) : Bk w' X vf vw us cc Ls where
  row := (hk.block X (lt_of_heap h.row) (hd X (.inl rfl))).trans h.row
  free := h.free.keep hk fun k e => hd k (.inr (.inl e))
  was := h.was.keep hk fun k e => hd k (.inr (.inr (.inl e)))
  l1 := h.l1
  l2 := h.l2
  dX := h.dX
  dFW := h.dFW
  own := fun i u L h1 h2 => ⟨(h.own i u L h1 h2).1.keep hk fun k e => hd k (.inr (.inr (.inr (.inl ⟨i, u, h1, e⟩)))), (h.own i u L h1 h2).2⟩
  cpy := fun i c L h1 h2 => (h.cpy i c L h1 h2).keep hk fun k e => hd k (.inr (.inr (.inr (.inr ⟨i, c, h1, e⟩))))
  apU := h.apU
  apC := h.apC
  di := h.di
/-- the list of lists of numbers -/
structure Nm (w : World) (vn : Value) (ns : List Value) (Is : List (List Int)) : Prop where
  lst : OwnM 1 w vn ns.length ns
  len : Is.length = ns.length
  own : ∀ (j : Nat) (v : Value) (I : List Int), ns[j]? = some v → Is[j]? = some I → OwnM 1 w v I.length (ivs I) ∧ I.length ≤ 256
  ap : ∀ (j : Nat) (v : Value) (k : Nat), ns[j]? = some v → v.ownBlock = some k → vn.ownBlock ≠ some k
  di : ∀ (i j : Nat) (u v : Value) (k : Nat), ns[i]? = some u → ns[j]? = some v → u.ownBlock = some k → v.ownBlock = some k → i = j
def Ns (ns : List Value) (k : Nat) : Prop := ∃ (j : Nat) (v : Value), ns[j]? = some v ∧ v.ownBlock = some k
def NmB (vn : Value) (ns : List Value) (k : Nat) : Prop := vn.ownBlock = some k ∨ Ns ns k
theorem Nm.nil (w : World) : Nm w (.slice none 0 0) [] [] := ⟨OwnM.nil 1 w, rfl, fun j v I e => by simp at e, fun j v k e => by simp at e, fun i j u v k e => by simp at e⟩
theorem Nm.lt {w : World} {vn : Value} {ns : List Value} {Is : List (List Int)} (h : Nm w vn ns Is) {k : Nat} (hk : NmB vn ns k) : k < w.heap.size := by
  rcases hk with e | ⟨j, v, e1, e2⟩
  · exact h.lst.lt k e
  · exact (h.own j v _ e1 (List.getElem?_eq_getElem (by have := (List.getElem?_eq_some_iff.1 e1).1; have := h.len; omega))).1.lt k e2
theorem Nm.keep {S : Nat → Prop} {w w' : World} {vn : Value} {ns : List Value} {Is : List (List Int)} (h : Nm w vn ns Is) (hk : Keep S w w') (hd : ∀ k, NmB vn ns k → ¬ S k) : Nm w' vn ns Is where
  lst := h.lst.keep hk fun k e => hd k (.inl e)
  len := h.len
  own := fun j v I h1 h2 => ⟨(h.own j v I h1 h2).1.keep hk fun k e => hd k (.inr ⟨j, v, h1, e⟩), (h.own j v I h1 h2).2⟩
  ap := h.ap
  di := h.di
/-- the book and the numbers, while Prove is asked -/
structure Cq (wX w : World) (X : Nat) (vf vw : Value) (us cc : List Value) (Ls : List (List (List UInt8))) (vn : Value) (ns : List Value) (Is : List (List Int)) : Prop where
  bel : Below X wX w
  bk : Bk w X vf vw us cc Ls
  nm : Nm w vn ns Is
  ge : ∀ k, NmB vn ns k → X ≤ k
  ap : ∀ k, BkB X vf vw us cc k → ¬ NmB vn ns k
section
variable {wX w w' : World} {X : Nat} {vf vw : Value} {us cc : List Value} {Ls : List (List (List UInt8))} {vn : Value} {ns : List Value} {Is : List (List Int)}
theorem Cq.lx (h : Cq wX w X vf vw us cc Ls vn ns Is) : X < w.heap.size := lt_of_heap h.bk.row
theorem Cq.below (h : Cq wX w X vf vw us cc Ls vn ns Is) (hb : Below w.heap.size w w') : Cq wX w' X vf vw us cc Ls vn ns Is :=
  ⟨h.bel.trans (hb.mono (Nat.le_of_lt h.lx)), h.bk.below hb, h.nm.keep (S := fun _ => False) (Keep.ofBelow hb) (fun _ _ e => e), h.ge, h.ap⟩
/-- a list that neither has -/
def Fv (X : Nat) (vf vw : Value) (us cc : List Value) (vn : Value) (ns : List Value) (v : Value) : Prop := ∀ k, v.ownBlock = some k → ¬ BkB X vf vw us cc k ∧ ¬ NmB vn ns k
theorem Cq.fresh (h : Cq wX w X vf vw us cc Ls vn ns Is) {v : Value} (hv : ∀ k, v.ownBlock = some k → w.heap.size ≤ k) : Fv X vf vw us cc vn ns v := fun k hk =>
  ⟨fun e => by have := (bk_lt h.bk e).2; have := hv k hk; omega, fun e => by have := h.nm.lt e; have := hv k hk; omega⟩
theorem Fv.fr {v : Value} (h : Fv X vf vw us cc vn ns v) : Fr X vf vw us v := fun k hk =>
  ⟨fun e => (h k hk).1 (.inl e), fun e => (h k hk).1 (.inr (.inl e)), fun e => (h k hk).1 (.inr (.inr (.inl e))), fun i u hu e => (h k hk).1 (.inr (.inr (.inr (.inl ⟨i, u, hu, e⟩))))⟩
/-- the blocks of the book behind a list that was taken -/
theorem took_src {vh vf' vw' c : Value} {H : List (List UInt8)} (T : Took w w' X X vf vw (.slice none 0 0) (.slice none 0 0) (.slice none 0 0) vh us cc H vf' vw' c) {k : Nat} (hk : BkB X vf' vw' (us ++ [vh]) (cc ++ [c]) k) : BkB X vf vw us cc k ∨ vh.ownBlock = some k ∨ w.heap.size ≤ k := by
  rcases hk with rfl | e | e | ⟨i, u, e1, e2⟩ | ⟨i, u, e1, e2⟩
  · exact .inl (.inl rfl)
  · rcases T.srcF k e with e | e
    · exact .inl (.inr (.inl e))
    · exact .inr (.inr e)
  · rcases T.srcW k e with e | e
    · exact .inl (.inr (.inr (.inl e)))
    · exact .inr (.inr e)
  · rcases getSnoc e1 with ⟨_, e⟩ | ⟨_, rfl⟩
    · exact .inl (.inr (.inr (.inr (.inl ⟨i, u, e, e2⟩))))
    · exact .inr (.inl e2)
  · rcases getSnoc e1 with ⟨_, e⟩ | ⟨_, rfl⟩
    · exact .inl (.inr (.inr (.inr (.inr ⟨i, u, e, e2⟩))))
    · exact .inr (.inr (T.copy.ge k e2))
theorem Cq.took (h : Cq wX w X vf vw us cc Ls vn ns Is) {vh vf' vw' c : Value} {H : List (List UInt8)} {b : Nat} (T : Took w w' X X vf vw (.slice none 0 0) (.slice none 0 0) (.slice none 0 0) vh us cc H vf' vw' c)
    (ho : Own w b vh (svs H)) (hb : X ≤ b) (hl : H.length ≤ 1000000) (fr : Fv X vf vw us cc vn ns vh) : Cq wX w' X vf' vw' (us ++ [vh]) (cc ++ [c]) (Ls ++ [H]) vn ns Is where
  bel := h.bel.trans (keep_below T.keep (Nat.le_of_lt h.lx) fun k hk => by
    rcases hk with rfl | e | e
    · exact Nat.le_refl _
    · exact h.bk.free.ge k e
    · exact h.bk.was.ge k e)
  bk := h.bk.take T ho hb hl fr.fr
  nm := h.nm.keep T.keep fun k hk e => by
    rcases e with rfl | e | e
    · exact h.ap k (.inl rfl) hk
    · exact h.ap k (.inr (.inl e)) hk
    · exact h.ap k (.inr (.inr (.inl e))) hk
  ge := h.ge
  ap := fun k hk e => by
    rcases took_src T hk with a | a | a
    · exact h.ap k a e
    · exact (fr k a).2 e
    · have := h.nm.lt e; omega
theorem Fv.took {vh vf' vw' c x : Value} {H : List (List UInt8)} {b : Nat} {cx : List Value} (hx : Fv X vf vw us cc vn ns x) (T : Took w w' X X vf vw (.slice none 0 0) (.slice none 0 0) (.slice none 0 0) vh us cc H vf' vw' c) (ox : Own w b x cx) (hne : ∀ k, x.ownBlock = some k → vh.ownBlock ≠ some k) :
    Fv X vf' vw' (us ++ [vh]) (cc ++ [c]) vn ns x ∧ Own w' b x cx := by
  refine ⟨fun k hk => ⟨fun e => ?_, (hx k hk).2⟩, ox.keep T.keep fun k hk e => ?_⟩
  · rcases took_src T e with a | a | a
    · exact (hx k hk).1 a
    · exact hne k hk a
    · have := ox.lt k hk; omega
  · rcases e with rfl | e | e
    · exact (hx k hk).1 (.inl rfl)
    · exact (hx k hk).1 (.inr (.inl e))
    · exact (hx k hk).1 (.inr (.inr (.inl e)))
theorem Cq.push (h : Cq wX w X vf vw us cc Ls vn ns Is) {vi vn' : Value} {I : List Int} (oi : OwnM 1 w vi I.length (ivs I)) (hI : I.length ≤ 256) (hX : ∀ k, vi.ownBlock = some k → X ≤ k) (fi : Fv X vf vw us cc vn ns vi) (hg : Grow w w' vn vn') (ho : OwnM 1 w' vn' (ns.length + 1) (ns ++ [vi])) :
    Cq wX w' X vf vw us cc Ls vn' (ns ++ [vi]) (Is ++ [I]) := by
  have hk := hg.keepQ
  have hnew : ∀ k, NmB vn' (ns ++ [vi]) k → NmB vn ns k ∨ vi.ownBlock = some k ∨ w.heap.size ≤ k := fun k e => by
    rcases e with e | ⟨j, v, e1, e2⟩
    · rcases hg.new e with e | e
      · exact .inl (.inl e)
      · exact .inr (.inr e)
    · rcases getSnoc e1 with ⟨_, e⟩ | ⟨_, rfl⟩
      · exact .inl (.inr ⟨j, v, e, e2⟩)
      · exact .inr (.inl e2)
  refine ⟨h.bel.trans (keep_below hk (Nat.le_of_lt h.lx) fun k e => h.ge k (.inl e)), bk_keep h.bk hk (fun k a e => h.ap k a (.inl e)), ?_, fun k e => ?_, fun k a e => ?_⟩
  · refine ⟨by rw [List.length_append]; exact ho, by rw [List.length_append, List.length_append, h.nm.len]; rfl, fun j v J e1 e2 => ?_, fun j v k e1 e2 e3 => ?_, fun i j u v k e1 e2 e3 e4 => ?_⟩
    · rcases getSnoc e1 with ⟨a1, a2⟩ | ⟨a1, rfl⟩
      · rw [List.getElem?_append_left (by rw [h.nm.len]; exact a1)] at e2
        exact ⟨(h.nm.own j v J a2 e2).1.keep hk fun k a => h.nm.ap j v k a2 a, (h.nm.own j v J a2 e2).2⟩
      · rw [a1, ← h.nm.len, List.getElem?_append_right (Nat.le_refl _), Nat.sub_self] at e2
        obtain rfl := Option.some.inj e2
        exact ⟨oi.keep hk fun k a b => (fi k a).2 (.inl b), hI⟩
    · rcases hg.new e3 with e3 | e3
      · rcases getSnoc e1 with ⟨_, a2⟩ | ⟨_, rfl⟩
        · exact h.nm.ap j v k a2 e2 e3
        · exact (fi k e2).2 (.inl e3)
      · rcases getSnoc e1 with ⟨_, a2⟩ | ⟨_, rfl⟩
        · have := h.nm.lt (.inr ⟨j, v, a2, e2⟩); omega
        · have := oi.lt k e2; omega
    · rcases getSnoc e1 with ⟨a1, a2⟩ | ⟨a1, rfl⟩
      · rcases getSnoc e2 with ⟨b1, b2⟩ | ⟨b1, rfl⟩
        · exact h.nm.di i j u v k a2 b2 e3 e4
        · exact absurd (.inr ⟨i, u, a2, e3⟩) (fi k e4).2
      · rcases getSnoc e2 with ⟨b1, b2⟩ | ⟨b1, rfl⟩
        · exact absurd (.inr ⟨j, v, b2, e4⟩) (fi k e3).2
        · omega
  · rcases hnew k e with e | e | e
    · exact h.ge k e
    · exact hX k e
    · have := h.lx; omega
  · rcases hnew k e with e | e | e
    · exact h.ap k a e
    · exact (fi k e).1 a
    · have := (bk_lt h.bk a).2; omega
/-- still, and what is left -/
theorem Cq.still (h : Cq wX w X vf vw us cc Ls vn ns Is) {N : Nat} (hN : us.length = N) (h0 : 0 < N) (h2 : N ≤ 200) :
    Calls Tryz.prog 21 #[.pointer (some ⟨X, 0, none⟩)] w fun e w' => e = .returned (.bool true) ∧ Nm w' vn ns Is ∧ Below X wX w' ∧ X < w'.heap.size := by
  refine (still12_any X X N vf vw us cc Ls w h.bk.row h.bk.free h.bk.was hN (by have := h.bk.l1; have := h.bk.l2; omega) (by have := h.bk.l1; omega) h0 h2 h.bk.own h.bk.cpy (fun i u g a b => (h.bk.apU i u g a b).1) h.bk.di (Nat.le_of_lt h.lx)).mono ?_
  rintro e w' ⟨rfl, hk⟩
  have hS : ∀ k, Sd X us k → BkB X vf vw us cc k := fun k e => by
    rcases e with e | e
    · exact .inl e
    · exact .inr (.inr (.inr (.inl e)))
  exact ⟨rfl, h.nm.keep hk fun k a e => h.ap k (hS k e) a, h.bel.trans (keep_below hk (Nat.le_of_lt h.lx) fun k e => (bk_lt h.bk (hS k e)).1), Nat.lt_of_lt_of_le h.lx hk.size⟩
end
/-- ints of the lists of numbers -/
theorem Nm.ints {w : World} {vn : Value} {ns : List Value} {Is : List (List Int)} (h : Nm w vn ns Is) {N : Nat} (hN : ns.length = N) (h0 : 0 < N) (h2 : N ≤ 100) :
    Calls Tryz.prog 22 #[vn] w fun r w' => r = .returned (.bool true) ∧ Keep (Ns ns) w w' := by
  classical
  have hl := h.lst
  rw [hN] at hl
  rcases hl with ⟨_, e, _⟩ | ⟨gl, cl, rfl, l1, l2, l3, l4, l5, l6⟩
  · omega
  obtain ⟨ρ, r0, r1⟩ : ∃ ρ : Nat → Nat, (∀ k, ¬ Ns ns k → ρ k = 0) ∧ ∀ (j : Nat) (v : Value) (k : Nat), ns[j]? = some v → v.ownBlock = some k → ρ k = 3 + j := by
    refine ⟨fun k => if hh : Ns ns k then 3 + hh.choose else 0, fun k hk => by simp only; rw [dif_neg hk], fun j v k e1 e2 => ?_⟩
    have hh : Ns ns k := ⟨j, v, e1, e2⟩
    simp only
    rw [dif_pos hh]
    obtain ⟨v', a, b⟩ := hh.choose_spec
    rw [h.di _ _ v' v k a e1 b e2]
  have hg : ¬ Ns ns gl := fun ⟨j, v, a, b⟩ => h.ap j v gl a b rfl
  refine In.ints_any (Ns ns) w gl N cl ns (fun j => ivs (Is.getD j [])) ρ ?_ hN h2 (fun j => ?_)
  · refine ⟨Keep.refl _ _, fun k _ hk => r0 k hk, l4, r0 gl hg, l6, fun j v _ e => ?_, OwnM.nil 1 w, fun k hk => (by cases hk), OwnM.nil 1 w, fun k hk => (by cases hk), fun t v e => (by simp at e)⟩
    have hj : Is[j]? = some (Is.getD j []) := by
      have : j < Is.length := by have := (List.getElem?_eq_some_iff.1 e).1; have := h.len; omega
      simp [List.getD, List.getElem?_eq_getElem this]
    refine ⟨?_, fun k hk => r1 j v k e hk⟩
    have := (h.own j v _ e hj).1
    rw [ivs_length]
    exact this
  · rw [ivs_length]
    by_cases hj : j < Is.length
    · have hj2 : j < ns.length := by have := h.len; omega
      have := (h.own j ns[j] Is[j] (List.getElem?_eq_getElem hj2) (List.getElem?_eq_getElem hj)).2
      simp only [List.getD, List.getElem?_eq_getElem hj, Option.getD_some]
      omega
    · simp [List.getD, List.getElem?_eq_none (show Is.length ≤ j by omega)]
end Bat
end Go.Proofs.YtmpaliocfikifaaGreatDoor

namespace Go.Proofs.YtmpaliocfikifaaGreatDoor
open Go.RowKit Go.Shelf
namespace Bat
theorem oth302 : Tree.othF 3 0 3 [0, 2] = [(1, 2)] := by decide
theorem pth30 : Tree.pthF 3 0 3 0 = [(1, 2), (2, 3)] := by decide
theorem pth32 : Tree.pthF 3 0 3 2 = [(0, 2)] := by decide
theorem bat302 : BatOk ((3 : Nat) : Int) (ix [0, 2]) := ⟨by decide, by decide, by decide, by decide, by decide, by decide, by decide, by decide, by decide⟩
theorem bat302' : batchL 3 [0, 2] = [(1, 2)] := by
  have hE := batchE_ok bat302
  have : batchL ((3 : Nat) : Int) (ix [0, 2]) = Tree.othF 3 0 3 [0, 2] := by unfold batchL; rw [if_pos hE]; rfl
  rw [oth302] at this
  exact this
theorem tol302 : tolE 3 [0, 2] = 0 := tolE_zero.2 (batchE_ok bat302)
theorem atI_two (w : World) (x y : Int) : AtI (w.alloc (.cells #[.int .i64 x, .int .i64 y] 3)) (some ⟨w.heap.size, 0, none⟩) [x, y] := fun j p hp => by
  have h := heap_alloc_new w (.cells #[.int .i64 x, .int .i64 y] 3)
  refine ⟨_, rfl, lt_of_heap h, ?_⟩
  rw [Addr.add_mid, Nat.zero_add, cell_of_row _ _ _ _ _ _ h]
  match j, hp with
  | 0, hp => simp at hp; simp [hp]
  | 1, hp => simp at hp; simp [hp]
  | j + 2, hp => simp at hp
theorem at_three (w : World) (x y z : List UInt8) : At (w.alloc (.cells #[.string ⟨x.toArray⟩, .string ⟨y.toArray⟩, .string ⟨z.toArray⟩] 9)) (some ⟨w.heap.size, 0, none⟩) [x, y, z] := fun j p hp => by
  have h := heap_alloc_new w (.cells #[.string ⟨x.toArray⟩, .string ⟨y.toArray⟩, .string ⟨z.toArray⟩] 9)
  refine ⟨_, rfl, lt_of_heap h, ?_⟩
  rw [Addr.add_mid, Nat.zero_add, cell_of_row _ _ _ _ _ _ h]
  match j, hp with
  | 0, hp => simp at hp; subst hp; rfl
  | 1, hp => simp at hp; subst hp; rfl
  | 2, hp => simp at hp; subst hp; rfl
  | j + 3, hp => simp at hp
theorem at_two (w : World) (x z : List UInt8) : At (w.alloc (.cells #[.string ⟨x.toArray⟩, .string ⟨z.toArray⟩] 9)) (some ⟨w.heap.size, 0, none⟩) [x, z] := fun j p hp => by
  have h := heap_alloc_new w (.cells #[.string ⟨x.toArray⟩, .string ⟨z.toArray⟩] 9)
  refine ⟨_, rfl, lt_of_heap h, ?_⟩
  rw [Addr.add_mid, Nat.zero_add, cell_of_row _ _ _ _ _ _ h]
  match j, hp with
  | 0, hp => simp at hp; subst hp; rfl
  | 1, hp => simp at hp; subst hp; rfl
  | j + 2, hp => simp at hp
theorem tolH302 (x y z : List UInt8) : tolH [x, y, z] 3 [0, 2] = [y] := by unfold tolH; rw [oth302]; rfl
theorem fit302 (x y z : List UInt8) (val : Nat × Nat → List UInt8) (V : Val [0, 2] 3 [y] [x, z] val) : val (0, 3) = Tree.root [x, y, z] := by
  have F : Fit [0, 2] 3 [x, y, z] val := V.fit (by simp) (by decide) (by rw [oth302]; rfl) (fun k i h => by
    match k, h with
    | 0, h => simp at h; subst h; rfl
    | 1, h => simp at h; subst h; rfl
    | k + 2, h => simp at h)
  exact F.root (by decide)
set_option maxRecDepth 100000 in
set_option maxHeartbeats 1600000 in
theorem known12_any (w : World) (Z : Tb w) : Calls Tryz.prog 6 #[] w fun e w' => e = .returned (.bool true) ∧ Below w.heap.size w w' := by
  have i1 := fun w' => lleaf_at 1 (lf 1) rfl w'
  have i2 := fun w' => lleaf_at 2 (lf 2) rfl w'
  have i3 := fun w' => lleaf_at 3 (lf 3) rfl w'
  have hx := lf_length 1
  have hy := lf_length 2
  have hz := lf_length 3
  generalize lf 1 = x at *
  generalize lf 2 = y at *
  generalize lf 3 = z at *
  have HZ := hid Z
  have hT := Z.lt
  have H32 : Hid (x.length = 32 ∧ y.length = 32 ∧ z.length = 32) := ⟨hx, hy, hz⟩
  simp only [show sv x = .string ⟨x.toArray⟩ from rfl] at i1
  simp only [show sv y = .string ⟨y.toArray⟩ from rfl] at i2
  simp only [show sv z = .string ⟨z.toArray⟩ from rfl] at i3
  clear Z hx hy hz
  go_enter Tryz.func6, Tryz.ntmps6
  go_wp2_with (first
    | (go_at_call 27; (first
      | ((with_reducible refine (i1 _).mono ?_); rintro r w1 ⟨rfl, b1⟩)
      | ((with_reducible refine (i2 _).mono ?_); rintro r w2 ⟨rfl, b2⟩)
      | ((with_reducible refine (i3 _).mono ?_); rintro r w3 ⟨rfl, b3⟩)))
    | (go_at_call 8; fail))
  have B3 : Hid (Below w.heap.size w w3) := by
    have h2 := b1.trans (b2.mono b1.size)
    exact h2.trans (b3.mono h2.size)
  have ba3 := (Below.refl w3.heap.size w3).alloc (Nat.le_refl _) (.cells #[.string ⟨x.toArray⟩, .string ⟨y.toArray⟩, .string ⟨z.toArray⟩] 9)
  have B3' := hid (B3.out.trans (ba3.mono B3.out.size))
  have j4 := planted12_any 0 [x, y, z] (fun q hq => by
    have := H32.out
    simp only [List.mem_cons, List.not_mem_nil, or_false] at hq
    rcases hq with rfl | rfl | rfl
    · exact this.1
    · exact this.2.1
    · exact this.2.2) (by simp) (some ⟨w3.heap.size, 0, none⟩) 3 _ (by omega) (by omega) (at_three w3 x y z) (HZ.out.below B3'.out hT)
  rw [show ([x, y, z] : List (List UInt8)).length = 3 from rfl] at j4
  with_reducible refine j4.mono ?_
  rintro r w4 ⟨q, h, F, rfl, t4, _, b4⟩
  have B4 := hid (B3'.out.trans (b4.mono B3'.out.size))
  have T4 := hid t4
  clear j4 ba3 B3' B3 b1 b2 b3 b4 t4
  have ba4 := (Below.refl w4.heap.size w4).alloc (Nat.le_refl _) (.cells #[.int .i64 0, .int .i64 2] 3)
  have B4' := hid (B4.out.trans (ba4.mono B4.out.size))
  have j5 := prove12_ok (T4.out.below ba4) (HZ.out.below B4'.out hT) 3 [0, 2] bat302 (by simp) (some ⟨w4.heap.size, 0, none⟩) 2 (atI_two w4 0 2)
  rw [tolH302, show ([0, 2] : List Nat).length = 2 from rfl, show ((3 : Nat) : Int) = 3 from rfl] at j5
  clear ba4
  go_wp2_with (go_at_call 15; fail)
  with_reducible refine j5.mono ?_
  rintro r w5 ⟨vi, gh, rfl, o5, r5, _, _, b5⟩
  obtain ⟨va, vc, hvi, hat5, _, _⟩ := Own.atI o5
  subst hvi
  have B5 := hid (B4'.out.trans (b5.mono B4'.out.size))
  have T5 := hid (T4.out.below (((Below.refl w4.heap.size w4).alloc (Nat.le_refl _) (.cells #[.int .i64 0, .int .i64 2] 3)).trans (b5.mono (by rw [size_alloc]; omega))))
  have R5 := hid r5
  have A5 := hid hat5
  clear j5 o5 r5 b5 hat5 B4' T4 B4
  rw [show (ix [0, 2]).length = 2 from rfl, show ([y] : List (List UInt8)).length = 1 from rfl, show ((3 : Nat) : Int) = 3 from rfl]
  -- the batch's variable
  have ba5 := (Below.refl w5.heap.size w5).alloc (Nat.le_refl _) (.cells #[.int .i64 3, .slice va 2 vc, .slice (some ⟨gh, 0, none⟩) 1 1] 43)
  have S6 := hid (BtI.new w5 3 (.slice va 2 vc) (.slice (some ⟨gh, 0, none⟩) 1 1))
  have B6 := hid (B5.out.trans (ba5.mono B5.out.size))
  have T6 := hid (T5.out.below ba5)
  have R6 := hid (R5.out.below ba5 R5.out.lt)
  have A6 := hid (A5.out.below ba5 (Nat.le_refl _))
  have z6 : (w5.alloc (.cells #[.int .i64 3, .slice va 2 vc, .slice (some ⟨gh, 0, none⟩) 1 1] 43)).heap.size = w5.heap.size + 1 := by simp
  clear ba5 B5 T5 R5 A5
  go_upto_region 5 with fail
  generalize w5.alloc (.cells #[.int .i64 3, .slice va 2 vc, .slice (some ⟨gh, 0, none⟩) 1 1] 43) = w6 at *
  have ba6 := (Below.refl w6.heap.size w6).alloc (Nat.le_refl _) (.cells #[.int .i64 0, .int .i64 2] 3)
  have j7 := count12_any 3 [0, 2] (some ⟨w6.heap.size, 0, none⟩) 2 _ (by simp) (atI_two w6 0 2)
  rw [bat302', tol302, show ([0, 2] : List Int).length = 2 from rfl, z6] at j7
  go_wp2_with (go_at_call 13; fail)
  with_reducible refine j7.mono ?_
  rintro r w7 ⟨rfl, b7⟩
  have b67 := ba6.trans (b7.mono ba6.size)
  have S7 := hid (S6.out.below b67)
  have B7 := hid (B6.out.trans (b67.mono B6.out.size))
  have T7 := hid (T6.out.below b67)
  have R7 := hid (R6.out.below b67 R6.out.lt)
  have A7 := hid (A6.out.below b67 (Nat.le_refl _))
  clear j7 b7 ba6 b67 S6 B6 T6 R6 A6
  rw [show ((([(1, 2)] : List (Nat × Nat)).length : Nat) : Int) = 1 from rfl]
  go_upto_region 6 with fail
  obtain ⟨val, V⟩ := val_is [0, 2] 3 [y] [x, z] (by omega) (by decide) (by rw [oth302]; rfl) rfl
  have hv03 := hid (fit302 x y z val V)
  have hy8 : hsB8 [y] = true := by simp [hsB8, H32.out.2.1]
  have hx8 : hsB8 [x, z] = true := by simp [hsB8, H32.out.1, H32.out.2.2]
  have jE := fun w' (hb : Below w7.heap.size w7 w') => expand12_ok 3 [0, 2] [y] [x, z] val V bat302 hy8 hx8 va (some ⟨gh, 0, none⟩) (some ⟨w'.heap.size, 0, none⟩) vc 1 2 (w'.alloc (.cells #[.string ⟨x.toArray⟩, .string ⟨z.toArray⟩] 9)) ((HZ.out.below (B7.out.trans ((hb.alloc (by have := hb.size; omega) _).mono B7.out.size)) hT).t) (A7.out.below (hb.alloc hb.size _) (Nat.le_refl _)) (R7.out.at.below (hb.alloc hb.size _) (Nat.le_refl _)) (at_two w' x z)
  simp only [show ([0, 2] : List Nat).length = 2 from rfl, show ((3 : Nat) : Int) = 3 from rfl, show ([y] : List (List UInt8)).length = 1 from rfl, show ([x, z] : List (List UInt8)).length = 2 from rfl] at jE
  have mkS : ∀ w', Below w7.heap.size w7 w' → w'.cell? ⟨w5.heap.size, 0, none⟩ = some (.int .i64 3) ∧ w'.cell? ⟨w5.heap.size, 1, none⟩ = some (.slice va 2 vc) ∧ w'.cell? ⟨w5.heap.size, 2, none⟩ = some (.slice (some ⟨gh, 0, none⟩) 1 1) := fun w' hb => ⟨(S7.out.below hb).c0, (S7.out.below hb).c1, (S7.out.below hb).c2⟩
  have e7 := mkS w7.drew (Below.refl _ w7).drew
  go_region_held3 (fun w' => w'.cell? ⟨w5.heap.size, 0, none⟩ = some (.int .i64 3) ∧ w'.cell? ⟨w5.heap.size, 1, none⟩ = some (.slice va 2 vc) ∧ w'.cell? ⟨w5.heap.size, 2, none⟩ = some (.slice (some ⟨gh, 0, none⟩) 1 1)) (first | exact e10 | exact e9a | exact e9 | exact e8 | exact e7)
    (first
      | (go_at_call 27; (first
        | ((with_reducible refine (i1 _).mono ?_); rintro r w8 ⟨rfl, b8'⟩; have b8 := drewBelow8 b8'; have e8 := mkS w8 b8)
        | ((with_reducible refine (i3 _).mono ?_); rintro r w9 ⟨rfl, b9'⟩; have b9 := b8.trans (b9'.mono b8.size); have e9 := mkS w9 b9; have b9a := b9.alloc b9.size (.cells #[.string ⟨x.toArray⟩, .string ⟨z.toArray⟩] 9); have e9a := mkS _ b9a; have j10 := jE w9 b9)))
      | (go_at_call 28; (with_reducible refine j10.mono ?_); rintro r w10 ⟨G, gs, rfl, RV, gl, LS, _, b10'⟩; have b10 := b9a.trans (b10'.mono b9a.size); have e10 := mkS w10 b10))
  rw [show (paths [0, 2] 3 val).length = 2 from rfl] at gl ⊢
  obtain ⟨g0, g1, rfl⟩ : ∃ g0 g1, gs = [g0, g1] := by
    match gs, gl with
    | [a, b], _ => exact ⟨a, b, rfl⟩
  have cG : w10.cell? ⟨G, 1, none⟩ = some (.slice (some ⟨g1, 0, none⟩) 1 1) := RV.cell (by
    show some (lst g1 ((Tree.pthF 3 0 3 2).map val)) = _
    rw [pth32]; rfl)
  have hGl := RV.lt
  have B10 := hid (B7.out.trans (b10.mono B7.out.size))
  have S10 := hid (S7.out.below b10)
  have T10 := hid (T7.out.below b10)
  have R10 := hid (R7.out.below b10 R7.out.lt)
  have A10 := hid (A7.out.below b10 (Nat.le_refl _))
  have CG := hid cG
  clear mkS e7 e8 e9 e9a e10 b8 b8' b9 b9' b9a b10 b10' jE j10 RV LS B7 S7 T7 R7 A7 cG
  have jR := tRoot_any T10.out 3 (HZ.out.below B10.out hT) (show Hid (tPartO [x, y, z] 0 3 = (Tree.root [x, y, z], 0)) from tPartO_all)
  rw [show sv (Tree.root [x, y, z]) = Value.string ⟨(Tree.root [x, y, z]).toArray⟩ from rfl] at jR
  have mkC := fun w' (hb : Below w10.heap.size w10 w') => check12_any 3 [y] [x, z] 2 va (some ⟨gh, 0, none⟩) (some ⟨w'.heap.size, 0, none⟩) vc 1 2 (val (0, 3)) (Tree.root [x, y, z]) 0 0 (w'.alloc (.cells #[.string ⟨x.toArray⟩, .string ⟨z.toArray⟩] 9)) (fun w'' hb' => by
    have hbb := (hb.alloc hb.size (.cells #[.string ⟨x.toArray⟩, .string ⟨z.toArray⟩] 9)).trans (hb'.mono (by have := hb.size; rw [size_alloc]; omega))
    have := root12_ok 3 [0, 2] [y] [x, z] val V bat302 hy8 hx8 va (some ⟨gh, 0, none⟩) (some ⟨w'.heap.size, 0, none⟩) vc 1 2 w'' ((HZ.out.below (B10.out.trans (hbb.mono B10.out.size)) hT).t) (A10.out.below hbb (Nat.le_refl _)) (R10.out.at.below hbb (Nat.le_refl _)) ((at_two w' x z).below hb' (Nat.le_refl _))
    exact this.mono fun r w3 h => ⟨h.1, h.2.2⟩) (by rw [if_pos rfl, if_pos hv03.out])
  simp only [show ([y] : List (List UInt8)).length = 1 from rfl, show ([x, z] : List (List UInt8)).length = 2 from rfl, show sv (Tree.root [x, y, z]) = Value.string ⟨(Tree.root [x, y, z]).toArray⟩ from rfl] at mkC
  generalize Tree.root [x, y, z] = rr at *
  clear V hv03 hy8 hx8
  go_wp2_with (go_at_call 29; fail)
  with_reducible refine jR.mono ?_
  rintro r w11 ⟨rfl, b11⟩
  have hyy : ((ByteArray.mk y.toArray).toList == (ByteArray.mk y.toArray).toList) = true := by simp
  have mkS : ∀ w', Below w11.heap.size w11 w' → w'.cell? ⟨w5.heap.size, 0, none⟩ = some (.int .i64 3) ∧ w'.cell? ⟨w5.heap.size, 1, none⟩ = some (.slice va 2 vc) ∧ w'.cell? ⟨w5.heap.size, 2, none⟩ = some (.slice (some ⟨gh, 0, none⟩) 1 1) ∧ w'.cell? ⟨gh, 0, none⟩ = some (.string ⟨y.toArray⟩) ∧ w'.cell? ⟨G, 1, none⟩ = some (.slice (some ⟨g1, 0, none⟩) 1 1) := fun w' hb => by
    have hbb := b11.trans (hb.mono b11.size)
    have S' := S10.out.below hbb
    have R' := R10.out.below hbb R10.out.lt
    exact ⟨S'.c0, S'.c1, S'.c2, R'.cell (j := 0) rfl, (hbb.cell (p := ⟨G, 1, none⟩) hGl).trans CG.out⟩
  have e11 := mkS w11.drew (Below.refl _ w11).drew
  go_upto_region 8 with fail
  go_region_held3 (fun w' => w'.cell? ⟨w5.heap.size, 0, none⟩ = some (.int .i64 3) ∧ w'.cell? ⟨w5.heap.size, 1, none⟩ = some (.slice va 2 vc) ∧ w'.cell? ⟨w5.heap.size, 2, none⟩ = some (.slice (some ⟨gh, 0, none⟩) 1 1) ∧ w'.cell? ⟨gh, 0, none⟩ = some (.string ⟨y.toArray⟩) ∧ w'.cell? ⟨G, 1, none⟩ = some (.slice (some ⟨g1, 0, none⟩) 1 1)) (first | exact e15 | exact e14a | exact e14 | exact e13 | exact e12 | exact e11)
    (first
      | (go_at_call 27; (first
        | ((with_reducible refine (i2 _).mono ?_); rintro r w12 ⟨rfl, b12'⟩; have b12 := drewBelow8 b12'; have e12 := mkS w12 b12)
        | ((with_reducible refine (i1 _).mono ?_); rintro r w13 ⟨rfl, b13'⟩; have b13 := b12.trans (b13'.mono b12.size); have e13 := mkS w13 b13)
        | ((with_reducible refine (i3 _).mono ?_); rintro r w14 ⟨rfl, b14'⟩; have b14 := b13.trans (b14'.mono b13.size); have e14 := mkS w14 b14; have b14a := b14.alloc b14.size (.cells #[.string ⟨x.toArray⟩, .string ⟨z.toArray⟩] 9); have e14a := mkS _ b14a; have j15 := mkC w14 (b11.trans (b14.mono b11.size)))))
      | (go_at_call 30; (with_reducible refine j15.mono ?_); rintro r w15 ⟨rfl, b15'⟩; have b15 := b14a.trans (b15'.mono b14a.size); have e15 := mkS w15 b15))
  all_goals
    have BE := hid (B10.out.trans ((b11.trans (b15.mono b11.size)).mono B10.out.size))
    clear mkS mkC e11 e12 e13 e14 e14a e15 j15 b15 b15'
    go_wp2
    go_ret
    exact ⟨rfl, BE.out⟩
end Bat
end Go.Proofs.YtmpaliocfikifaaGreatDoor
