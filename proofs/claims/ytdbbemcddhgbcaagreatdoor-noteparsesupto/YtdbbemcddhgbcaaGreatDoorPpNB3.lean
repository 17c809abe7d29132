import Derived.Test.YtdbbemcddhgbcaaGreatDoorPpNA6
import Derived.Deep.RegionLaw
/- Layer 22: lists of texts that grow; a note's text, in the program -/
namespace Go.Proofs.YtdbbemcddhgbcaaGreatDoor
open Go.RowKit Go.Shelf
namespace Nt
theorem step_app22 {P : Program} {ops : Array Oper} {o : Oper} {a : Act} {w : World} {K : Act → World → Prop} {Q : Exit → Act → World → Prop} {E : Prop}
    (hg : o.guard = none) (s x : Operand) (t : TypeId) (hop : o.op = Op.call { callee := Callee.builtin Builtin.append, args := #[s, x], argTypes := #[t, t] })
    (v1 v2 v' : Value) (w' : World) (hs : a.eval s = v1) (hx : a.eval x = v2) (hrun : (Builtin.append_ #[t, t] o.type #[v1, v2]).run P w = .ok v' w') (hK : K (a.put o.dst v') w') :
    if Region.wanted o (yielded ops a.tmps) = true then Oper.wp P o a w K Q else E := by
  have hw : Region.wanted o (yielded ops a.tmps) = true := by simp [Region.wanted, hg]
  rw [if_pos hw]
  unfold Oper.wp
  simp [execOp, hop, resolve, invoke, builtin, hs, hx, hrun, Result.andThen]
  exact hK
def tbs (L : List ByteArray) : List Value := L.map Value.string
theorem tbs_len (L : List ByteArray) : (tbs L).length = L.length := List.length_map _
theorem infoSt : (Tryz.prog.info? 9).map (fun i => (i.zero, i.size, i.bytes)) = some (some (.string ⟨#[]⟩), 1, 16) := by kernel_rfl
/-- append(list, s) -/
theorem append_tb (w : World) (base : Nat) (v : Value) (L : List ByteArray) (p : ByteArray) (hown : Own w base v (tbs L)) (hlen : L.length ≤ 2000000) (hbase : base ≤ w.heap.size) :
    ∃ v' w', (Builtin.append_ #[70, 70] 70 #[v, .slice (some ⟨w.heap.size, 0, none⟩) 1 1]).run Tryz.prog (w.alloc (.cells #[.string p] 9)) = .ok v' w' ∧ Own w' base v' (tbs (L ++ [p])) ∧ Below base w w' ∧ ∀ k, k < w.heap.size → v.ownBlock ≠ some k → w'.heap[k]? = w.heap[k]? := by
  obtain ⟨i0, hi, hz0, hz1, hz2⟩ := info_parts infoSt
  have hsrc : Src Tryz.prog 1 70 (.slice (some ⟨w.heap.size, 0, none⟩) 1 1) 1 [.string p] (w.alloc (.cells #[.string p] 9)) :=
    Src.ofSlice _ Tryz.underlying70 ⟨w.heap.size, 0, none⟩ 1 1 [.string p] (by simp) (fun j u hj => by
      rw [Addr.add_mid, cell_of_row _ _ _ _ _ _ (heap_alloc_new w _), Nat.zero_add]; simpa using hj) (fun u hu => by simp at hu; subst hu; rfl)
  obtain ⟨v', w', h1, h2, h3, h4⟩ := run_append_O (P := Tryz.prog) (w.alloc (.cells #[.string p] 9)) base 70 70 70 9 i0 (.string ⟨#[]⟩) Tryz.underlying70 hi hz0 hz1 rfl v (tbs L) (hown.alloc _) _ 1 [.string p] hsrc
    (by rw [tbs_len, hz2]; omega) (by rw [tbs_len, maxLen]; omega) (by rw [size_alloc]; omega) (fun _ => by omega)
  refine ⟨v', w', h1, by simpa [tbs] using h2, ((Below.refl base w).alloc hbase _).trans (Below.ofGrown h3 hown.ge (by rw [size_alloc]; omega)), fun k hk hne => ?_⟩
  rw [h3.block k (by rw [size_alloc]; omega) (fun e => hne e.symm)]
  exact Below.heap_alloc _ _ _ hk
theorem Own.lt' {w : World} {base : Nat} {v : Value} {cs : List Value} (h : Own w base v cs) : ∀ k, v.ownBlock = some k → k < w.heap.size := fun k hk => by
  rcases h with ⟨rfl, _⟩ | ⟨g, c, rfl, _, _, _, _, _, h6⟩
  · cases hk
  · obtain rfl := Option.some.inj hk
    exact h6
theorem own_two (w : World) (x y : ByteArray) (base : Nat) (hb : base ≤ w.heap.size) : Own (w.alloc (.cells #[.string x, .string y] 9)) base (.slice (some ⟨w.heap.size, 0, none⟩) 2 2) (tbs [x, y]) := by
  have hX := heap_alloc_new w (.cells #[.string x, .string y] 9)
  refine .inr ⟨w.heap.size, 2, rfl, hb, Nat.le_refl _, by decide, fun j v hv => ?_, fun j hj => ?_, by rw [size_alloc]; omega⟩
  · rw [Nat.zero_add, cell_of_row _ _ _ _ _ _ hX]
    simpa [tbs] using hv
  · rw [Nat.zero_add]
    refine ⟨by rw [cell_of_row _ _ _ _ _ _ hX]; simp; omega, ?_⟩
    exact frozen_of_row _ _ _ _ _ hX
/-- a signature's line -/
def sgT (x : Sg) : ByteArray := ((⟨#[45, 32]⟩ ++ x.1) ++ ⟨#[32]⟩) ++ bT x.2
def sgL (x : Sg) : ByteArray := ⟨(lnL [sgT x]).toArray⟩
/-- a note's text -/
def ntT (O : ByteArray) (z : Int) (R : ByteArray) (S : List Sg) : ByteArray := ⟨((bdT O z R).data.toList ++ [10] ++ (S.map fun x => (sgL x).data.toList).flatten).toArray⟩
theorem join_flat (xs : List (List UInt8)) : Lib.join xs [] = xs.flatten := by
  cases xs with
  | nil => rfl
  | cons x r => rw [Lib.join_cons]; simp [Lib.joinTail]
theorem sgT_size (x : Sg) (h1 : x.1.size ≤ 1000) (h2 : x.2.size ≤ 6000) : (sgT x).size ≤ 20000 := by
  unfold sgT
  have := bT_size x.2
  rw [ByteArray.size_append, ByteArray.size_append, ByteArray.size_append, show (⟨#[45, 32]⟩ : ByteArray).size = 2 from rfl, show (⟨#[32]⟩ : ByteArray).size = 1 from rfl]
  omega
theorem lnL_len (xs : List ByteArray) (m : Nat) (h : ∀ x ∈ xs, x.size ≤ m) : (lnL xs).length ≤ xs.length * (m + 1) := by
  induction xs with
  | nil => simp [lnL]
  | cons x xs ih =>
    rw [lnL_cons]
    have h1 := ih (fun y hy => h y (List.mem_cons_of_mem _ hy))
    have h2 := h x List.mem_cons_self
    simp only [List.length_append, List.length_cons, List.length_nil]
    have : x.data.toList.length = x.size := by simp
    rw [Nat.add_mul]
    omega
theorem sgL_size (x : Sg) (h1 : x.1.size ≤ 1000) (h2 : x.2.size ≤ 6000) : (sgL x).size ≤ 20001 := by
  unfold sgL
  rw [sv_size]
  have := lnL_len [sgT x] 20000 (fun y hy => by rw [List.mem_singleton.1 hy]; exact sgT_size x h1 h2)
  simpa using this
theorem flat_len (L : List (List UInt8)) (m : Nat) (h : ∀ x ∈ L, x.length ≤ m) : L.flatten.length ≤ L.length * m := by
  induction L with
  | nil => simp
  | cons x L ih =>
    have h1 := ih (fun y hy => h y (List.mem_cons_of_mem _ hy))
    have h2 := h x List.mem_cons_self
    simp only [List.flatten_cons, List.length_append, List.length_cons]
    rw [Nat.add_mul]
    omega
/-- the texts that a note's text is joined of -/
def txs (O : ByteArray) (z : Int) (R : ByteArray) (S : List Sg) : List ByteArray := bdT O z R :: ⟨#[10]⟩ :: S.map sgL
set_option maxRecDepth 100000 in
set_option maxHeartbeats 8000000 in
theorem textOf_any {E : Es} {w : World} (h : Nw w E) (O R : ByteArray) (z : Int) (S : List Sg) (n : Nat) (hn : Hid (S.length = n)) (h16 : n ≤ 16) (a : Option Addr) (c : Nat) (hA : AtS w a S) (hO : O.size ≤ 1000) (hR : R.size ≤ 1000) (h0 : -9223372036854775808 ≤ z) (h1 : z ≤ 9223372036854775807) (hS : ∀ x ∈ S, x.1.size ≤ 1000 ∧ x.2.size ≤ 6000) : Calls Tryz.prog 35 #[nv O z R (.slice a n c)] w fun q w' => q = .returned (.string (ntT O z R S)) ∧ Below w.heap.size w w' := by
  have B0 := hid ((Below.refl w.heap.size w).alloc (Nat.le_refl _) (.cells #[.string O, .int .i64 z, .string R, .slice a n c] 26))
  have S0 := hid (Bx.new w O z R (.slice a n c))
  obtain ⟨W, hW⟩ : ∃ W, w.alloc (.cells #[.string O, .int .i64 z, .string R, .slice a n c] 26) = W := ⟨_, rfl⟩
  unfold Hid at B0 S0
  rw [hW] at B0 S0
  obtain ⟨g, hg⟩ : ∃ g, w.heap.size = g := ⟨_, rfl⟩
  rw [hg] at S0
  have HA := hid (hA.below B0)
  have i1 := bodyOf_any (h.below B0) O R z (.slice a n c) hO hR h0 h1
  have p0 := S0.c0
  have p1 := S0.c1
  have p2 := S0.c2
  have p3 := S0.c3
  have i2 := fun (w' : World) => lines_row [⟨#[]⟩] 1 rfl (by omega) (by decide) w'.heap.size 1 9 (w'.alloc (.cells #[.string ⟨#[]⟩] 9)) (heap_alloc_new _ _)
  have HS := hid hS
  have B0 := hid B0
  have S0 := hid S0
  have HG := hid hg
  have HW := hid hW
  clear hg hW h hA hS
  unfold nv at *
  go_enter Tryz.func35, Tryz.ntmps35
  go_upto_region 1 with fail
  rw [HW.out, HG.out]
  go_upto_region 2 with (first
    | (go_at_call 33; (refine i1.mono ?_); rintro q w1 ⟨rfl, b1⟩)
    | (go_at_call 52; (refine (i2 _).mono ?_); rintro q w2 ⟨rfl, b2⟩))
  have BU := (b1.trans (((Below.refl w1.heap.size w1).alloc (Nat.le_refl _) (.cells #[.string ⟨#[]⟩] 9)).trans (b2.mono (by rw [size_alloc]; omega)) |>.mono b1.size)).trans (((Below.refl w2.heap.size w2).alloc (Nat.le_refl _) (.cells #[.string (bdT O z R), .string ⟨#[10]⟩] 9)).mono (by have h1 := b1.size; have h2 := b2.size; rw [size_alloc] at h2; omega))
  have ow := own_two w2 (bdT O z R) ⟨#[10]⟩ W.heap.size (by have h1 := b1.size; have h2 := b2.size; rw [size_alloc] at h2; omega)
  have p4 := (S0.out.below BU).c3
  obtain ⟨U, hU⟩ : ∃ U, w2.alloc (.cells #[.string (bdT O z R), .string ⟨#[10]⟩] 9) = U := ⟨_, rfl⟩
  rw [show (⟨(lnL [⟨#[]⟩]).toArray⟩ : ByteArray) = ⟨#[10]⟩ from rfl]
  rw [hU] at BU ow p4 ⊢
  have BU := hid BU
  have OW := hid ow
  obtain ⟨g2, hg2⟩ : ∃ g2, w2.heap.size = g2 := ⟨_, rfl⟩
  unfold Hid at OW
  rw [hg2] at OW ⊢
  have OW := hid OW
  clear b1 b2 ow hU hg2 i1 i2 p0 p1 p2 p3
  go_wp2
  go_loopw [3, 5, 14] (fun v _ i wr => ∃ j : Nat, j ≤ n ∧ i = .int .i64 (j : Int) ∧ Hid (Own wr W.heap.size v (tbs (bdT O z R :: ⟨#[10]⟩ :: (S.take j).map sgL))) ∧ Hid (Below W.heap.size W wr)) (fun _ _ i _ => n - (intOf i).toNat)
  case atStart => exact ⟨0, by omega, rfl, OW.out, BU.out⟩
  case round =>
    obtain ⟨j, hj, rfl, hO', hB⟩ := hrel
    by_cases hjn : j < n
    · have e0 : (j : Int) < (n : Int) := by omega
      have j0 : (0 : Int) ≤ (j : Int) := by omega
      obtain ⟨x, hx⟩ : ∃ x, S[j]? = some x := ⟨_, List.getElem?_eq_getElem (by rw [hn.out]; exact hjn)⟩
      have hxs := HS.out x (List.mem_of_getElem? hx)
      have htk : (S.take (j + 1)).map sgL = (S.take j).map sgL ++ [sgL x] := by rw [List.take_add_one, hx]; simp
      have HTK := hid htk
      have hls := sgT_size x hxs.1 hxs.2
      have hln : (lnL [sgT x]).length ≤ 140737488355000 := by
        have := lnL_len [sgT x] 20000 (fun y hy => by rw [List.mem_singleton.1 hy]; exact hls)
        simp at this
        omega
      have i3 := fun (w' : World) => lines_row [sgT x] 1 rfl (by omega) hln w'.heap.size 1 9 (w'.alloc (.cells #[.string (sgT x)] 9)) (heap_alloc_new _ _)
      have i4 := fun w' => b64T_any x.2 (by omega) w'
      obtain ⟨p, rfl, hp, x1, x2⟩ := (HA.out.below hB.out) j _ hx
      obtain ⟨N, D⟩ := x
      rw [show (⟨(lnL [sgT (N, D)]).toArray⟩ : ByteArray) = sgL (N, D) from rfl] at i3
      obtain ⟨QL, hQL⟩ : ∃ q, sgL (N, D) = q := ⟨_, rfl⟩
      rw [hQL] at i3 HTK
      have bb := bT_size D
      obtain ⟨BD, hBD⟩ : ∃ q, bT D = q := ⟨_, rfl⟩
      have est : sgT (N, D) = ((⟨#[45, 32]⟩ ++ N) ++ ⟨#[32]⟩) ++ BD := by unfold sgT; rw [hBD]
      rw [est] at i3
      simp only at hxs i4
      rw [hBD] at bb i4
      have n1 := hxs.1
      have n2 := hxs.2
      have a1 : ¬ 9223372036854775807 < (⟨#[45, 32]⟩ : ByteArray).size + N.size := by show ¬ _ < 2 + _; omega
      have a1' : ¬ 9223372036854775807 < 2 + N.size := by omega
      have a2 : ¬ 9223372036854775807 < (⟨#[45, 32]⟩ ++ N).size + (⟨#[32]⟩ : ByteArray).size := by rw [ByteArray.size_append]; show ¬ _ < (2 + N.size) + 1; omega
      have a3 : ¬ 9223372036854775807 < ((⟨#[45, 32]⟩ ++ N) ++ ⟨#[32]⟩).size + BD.size := by rw [ByteArray.size_append, ByteArray.size_append]; show ¬ _ < ((2 + N.size) + 1) + BD.size; omega
      have a2' : ¬ 9223372036854775807 < (⟨#[45, 32]⟩ : ByteArray).size + N.size + (⟨#[32]⟩ : ByteArray).size := by show ¬ _ < (2 + N.size) + 1; omega
      have a2q : ¬ 9223372036854775807 < 2 + N.size + 1 := by omega
      have a3' : ¬ 9223372036854775807 < (⟨#[45, 32]⟩ : ByteArray).size + N.size + (⟨#[32]⟩ : ByteArray).size + BD.size := by show ¬ _ < ((2 + N.size) + 1) + BD.size; omega
      have a3q : ¬ 9223372036854775807 < 2 + N.size + 1 + BD.size := by omega
      have a3r : ¬ 9223372036854775804 < N.size + BD.size := by omega
      have a3s : ¬ 9223372036854775806 < (2 + N.size) + BD.size := by omega
      have bA := (Below.refl wr.heap.size wr).alloc (Nat.le_refl _) (.cells #[.string N, .string D] 32)
      have sA := heap_alloc_new wr (.cells #[.string N, .string D] 32)
      have BA := hid bA
      have SA := hid sA
      have SZ := hid (show wr.heap.size < (wr.alloc (.cells #[.string N, .string D] 32)).heap.size by rw [size_alloc]; omega)
      clear bA sA hls hln hxs hQL hBD est htk bb a3r a3s
      go_upto_region 5 with fail
      obtain ⟨Y, hY⟩ : ∃ Y, wr.alloc (.cells #[.string N, .string D] 32) = Y := ⟨_, rfl⟩
      obtain ⟨gS, hgS⟩ : ∃ g, wr.heap.size = g := ⟨_, rfl⟩
      unfold Hid at BA SA SZ
      rw [hY] at BA SA SZ ⊢
      rw [hgS] at SA SZ ⊢
      have BY := hid (hB.out.trans (BA.mono hB.out.size))
      have OY := hid (hO'.out.below BA (Nat.le_refl _))
      have ne : u3.ownBlock ≠ some gS := fun e => by
        have := (Own.lt' hO'.out) gS e
        omega
      have NE := hid ne
      have s0 := SA
      have cs : ∀ w' : World, w'.heap[gS]? = some (.cells #[.string N, .string D] 32 (0, 0)) → w'.cell? ⟨gS, 0, none⟩ = some (.string N) ∧ w'.cell? ⟨gS, 1, none⟩ = some (.string D) := fun w' hh => ⟨by rw [cell_of_row w' gS 0 _ _ _ hh]; rfl, by rw [cell_of_row w' gS 1 _ _ _ hh]; rfl⟩
      have d0 := cs Y s0
      have CS := hid cs
      have SY := hid s0
      have SZ := hid SZ
      clear hY hgS BA SA ne s0 cs x1 x2 hx hO' hB
      obtain ⟨av, cv, hv⟩ := Own.shape OY.out
      obtain ⟨nn, hnn⟩ : ∃ nn, (tbs (bdT O z R :: ⟨#[10]⟩ :: (S.take j).map sgL)).length = nn := ⟨_, rfl⟩
      rw [hnn] at hv
      subst hv
      have hl17 : (bdT O z R :: ⟨#[10]⟩ :: (S.take j).map sgL).length ≤ 2000000 := by simp; omega
      clear hnn
      go_region_held3 (fun W => W.cell? ⟨gS, 0, none⟩ = some (.string N) ∧ W.cell? ⟨gS, 1, none⟩ = some (.string D)) (first | exact d0 | exact d5 | exact d5a | exact d6 | exact d6a | exact d7) (first
        | (go_at_call 54; (refine (i4 _).mono ?_); rintro q w5 ⟨rfl, b5⟩; have b5 := (bw_drew Y).trans b5; have s5 := (b5.block gS SZ.out).trans SY.out; have d5 := CS.out w5 s5; have d5a := CS.out (w5.alloc (.cells #[.string (((⟨#[45, 32]⟩ ++ N) ++ ⟨#[32]⟩) ++ BD)] 9)) ((Below.heap_alloc _ _ _ (Nat.lt_of_lt_of_le SZ.out b5.size)).trans s5); have B5 := hid b5; have S5 := hid s5; clear b5 s5)
        | (go_at_call 52; (refine (i3 w5).mono ?_); rintro q w6 ⟨rfl, b6⟩; have b6 := B5.out.trans ((((Below.refl w5.heap.size w5).alloc (Nat.le_refl _) _).trans (b6.mono (by rw [size_alloc]; omega))).mono B5.out.size); have s6 := (b6.block gS SZ.out).trans SY.out; have d6 := CS.out w6 s6; have d6a := CS.out (w6.alloc (.cells #[.string QL] 9)) ((Below.heap_alloc _ _ _ (Nat.lt_of_lt_of_le SZ.out b6.size)).trans s6); obtain ⟨v', w7, hap, O7, B7, K7⟩ := append_tb w6 W.heap.size _ (bdT O z R :: ⟨#[10]⟩ :: (S.take j).map sgL) QL (OY.out.below b6 (Nat.le_refl _)) hl17 (Nat.le_trans BY.out.size b6.size); have d7 := CS.out w7 ((K7 gS (Nat.lt_of_lt_of_le SZ.out b6.size) NE.out).trans s6); have B6 := hid b6; have O7 := hid O7; have B7 := hid B7; clear b6 s6 K7)
        | (refine step_app22 rfl _ _ 70 rfl _ _ _ w7 rfl rfl hap ?_))
      all_goals rw [List.cons_append, List.cons_append, ← HTK.out] at O7
      all_goals have B8 := hid ((BY.out.trans (B6.out.mono BY.out.size)).trans B7.out)
      all_goals clear hap hl17
      all_goals go_wp2
      all_goals exact ⟨⟨j + 1, by omega, by go_num, O7, B8⟩, by simp [intOf]; omega⟩
    · obtain rfl : n = j := by omega
      have e0 : ¬ (n : Int) < (n : Int) := by omega
      have htk : S.take n = S := List.take_of_length_le (by rw [hn.out]; exact Nat.le_refl _)
      rw [htk] at hO'
      obtain ⟨g5, c5, hv, _, hcc, _, hrg, _, hg5⟩ : ∃ g cap, u3 = .slice (some ⟨g, 0, none⟩) (n + 2) cap ∧ W.heap.size ≤ g ∧ n + 2 ≤ cap ∧ cap ≤ maxLen ∧ wr.rangeAt g 0 (tbs (bdT O z R :: ⟨#[10]⟩ :: S.map sgL)) ∧ wr.there g 0 cap ∧ g < wr.heap.size := by
        have hlen : (tbs (bdT O z R :: ⟨#[10]⟩ :: S.map sgL)).length = n + 2 := by rw [tbs_len, List.length_cons, List.length_cons, List.length_map, hn.out]
        rcases hO'.out with ⟨_, e⟩ | ⟨g, c, h1, h2, h3, h4, h5, h6, h7⟩
        · rw [e] at hlen; simp at hlen
        · rw [hlen] at h1 h3
          exact ⟨g, c, h1, h2, h3, h4, h5, h6, h7⟩
      have i5 := Tryz.strings_Join g5 0 c5 (bdT O z R :: ⟨#[10]⟩ :: S.map sgL) ⟨#[]⟩ wr (fun k x hx => hrg k (.string x) (by unfold tbs; rw [List.getElem?_map, hx]; rfl)) hg5 (by rw [List.length_cons, List.length_cons, List.length_map, hn.out]; omega) (by rw [List.length_cons, List.length_cons, List.length_map, hn.out]; exact hcc) (by
        rw [show (⟨#[]⟩ : ByteArray).data.toList = [] from rfl, join_flat]
        have hm := flat_len ((bdT O z R :: ⟨#[10]⟩ :: S.map sgL).map (·.data.toList)) 20001 (fun y hy => by
          obtain ⟨q, hq, rfl⟩ := List.mem_map.1 hy
          have hqs : q.size ≤ 20001 := by
            rcases List.mem_cons.1 hq with rfl | hq
            · unfold bdT
              rw [sv_size]
              have h1 := iT_size z h0 h1
              have h2 := bT_size R
              simp [lnL]
              omega
            · rcases List.mem_cons.1 hq with rfl | hq
              · decide
              · obtain ⟨x, hx, rfl⟩ := List.mem_map.1 hq
                have := HS.out x hx
                exact sgL_size x this.1 this.2
          simpa using hqs)
        simp only [List.length_map, List.length_cons] at hm
        rw [hn.out] at hm
        have : (n + 1 + 1) * 20001 ≤ 18 * 20001 := Nat.mul_le_mul_right _ (by omega)
        simp only [List.map_cons] at hm ⊢
        omega)
      rw [show (⟨#[]⟩ : ByteArray).data.toList = [] from rfl, join_flat, show (⟨(((bdT O z R :: ⟨#[10]⟩ :: S.map sgL).map (·.data.toList)).flatten).toArray⟩ : ByteArray) = ntT O z R S by unfold ntT; simp [List.map_map, Function.comp_def], show (bdT O z R :: ⟨#[10]⟩ :: S.map sgL).length = n + 2 by rw [List.length_cons, List.length_cons, List.length_map, hn.out]] at i5
      subst hv
      clear hrg hg5 hcc hO'
      go_wp2_with (go_at_call 56; (refine i5.mono ?_); rintro q w9 ⟨rfl, b9⟩)
      go_ret
      exact ⟨rfl, (B0.out.trans (hB.out.mono B0.out.size)).trans (b9.mono (Nat.le_trans B0.out.size hB.out.size))⟩
end Nt
end Go.Proofs.YtdbbemcddhgbcaaGreatDoor
