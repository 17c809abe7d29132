import Derived.Test.YtejdecfpegpgcaaDoorCSK4
import Derived.Test.YtejdecfpegpgcaaDoorCSP10
import Derived.Test.YtejdecfpegpgcaaDoorCSL11
import Derived.Test.YtejdecfpegpgcaaDoorCSK2
import Derived.Deep.CutRange
import Derived.Deep.DeepCutAuto
import Derived.Test.YtejdecfpegpgcaaDoorCSP18
namespace Go.Proofs.YtejdecfpegpgcaaDoor
open Go.RowKit Go.Shelf
def slLen : Value → Nat
  | .slice _ n _ => n
  | _ => 0
theorem OwnM.slLen {m : Nat} {w : World} {v : Value} {n : Nat} {cs : List Value} (h : OwnM m w v n cs) : slLen v = n := by
  obtain ⟨a, c, e, _, _⟩ := h.shape
  rw [e]; rfl
/-- the way down: the span in a block of its own, the list of what lies beside -/
structure Dn (w w' : World) (v : Value) (b e : Nat) (l : List (Nat × Nat)) : Prop where
  sp : SpI w' w.heap.size b e
  ow : OwnP w' v l
  nw : ∀ k, v.ownBlock = some k → w.heap.size < k
  bel : Below w.heap.size w w'
theorem Dn.below {w w' w'' : World} {v : Value} {b e : Nat} {l : List (Nat × Nat)} (h : Dn w w' v b e l) (hb : Below w'.heap.size w' w'') : Dn w w'' v b e l :=
  ⟨h.sp.below hb, h.ow.below hb, h.nw, h.bel.trans (hb.mono h.bel.size)⟩
theorem Dn.grow {w w' w'' : World} {v v' : Value} {b e : Nat} {l l' : List (Nat × Nat)} (h : Dn w w' v b e l) (hg : Grow w' w'' v v') (ho : OwnP w'' v' l') : Dn w w'' v' b e l' :=
  ⟨(hg.old _ (lt_of_heap h.sp) (fun e => by have := h.nw _ e; omega)).trans h.sp, ho, fun k hk => by
    rcases hg.alt with e1 | ⟨e1, _⟩
    · exact h.nw k (e1 ▸ hk)
    · have := e1 k hk; have := lt_of_heap h.sp; omega,
   h.bel.trans ⟨hg.os, hg.tape, hg.output, hg.size, fun k hk => hg.old k (Nat.lt_of_lt_of_le hk h.bel.size) (fun e => by have := h.nw k e; omega)⟩⟩
theorem Dn.set {w w' : World} {v : Value} {b e : Nat} {l : List (Nat × Nat)} (h : Dn w w' v b e l) (b' e' : Nat) : Dn w ((w'.setCell ⟨w.heap.size, 0, none⟩ (.int .i64 (b' : Int))).setCell ⟨w.heap.size, 1, none⟩ (.int .i64 (e' : Int))) v b' e' l :=
  ⟨h.sp.two _ _, h.ow.kept (by simp [World.setCell]) (fun g hg => by
    have hne : g ≠ w.heap.size := by have := h.nw g hg; omega
    rw [heap_setCell_other _ ⟨w.heap.size, 1, none⟩ g _ hne, heap_setCell_other _ ⟨w.heap.size, 0, none⟩ g _ hne]), h.nw,
   (h.bel.setCell (p := ⟨w.heap.size, 0, none⟩) (Nat.le_refl _) _).setCell (p := ⟨w.heap.size, 1, none⟩) (Nat.le_refl _) _⟩
theorem SpP.nil {w : World} {c : Int} : SpP w c [] (.returned (.tuple #[.slice none 0 0, .int .i64 c])) w := ⟨Below.refl _ _, _, rfl, OwnM.nil 2 _, fun k hk => by cases hk⟩
set_option maxRecDepth 100000 in
set_option maxHeartbeats 4000000 in
theorem rPath8_ok (N idx : Nat) (h1 : idx < N) (h2 : N ≤ 1099511627776) (w : World) :
    Calls Tryd.prog 26 #[.int .i64 (N : Int), .int .i64 (idx : Int)] w (SpP w 0 (Tree.pthF N 0 N idx)) := by
  have S0 := SpI.new w 0 (N : Int)
  have B0 := (Below.refl _ w).alloc (Nat.le_refl _) (.cells #[.int .i64 0, .int .i64 (N : Int)] 25)
  have D0 : Dn w (w.alloc (.cells #[.int .i64 0, .int .i64 (N : Int)] 25)) (.slice none 0 0) 0 (0 + N) [] := ⟨by rw [Nat.zero_add]; exact S0, OwnM.nil 2 _, (fun k hk => by cases hk), B0⟩
  have HD := hid D0
  obtain ⟨R, hR⟩ : ∃ R, Tree.pthF N 0 N idx = R := ⟨_, rfl⟩
  have HR := hid hR
  rw [hR]
  clear S0 B0 D0 hR
  have a1 : ¬ (N : Int) < 1 := by omega
  have a2 : ¬ 1099511627776 < (N : Int) := by omega
  have a3 : ¬ (idx : Int) < 0 := by omega
  have a4 : ¬ (N : Int) ≤ (idx : Int) := by omega
  have a5 : (idx : Int) < (N : Int) := by omega
  go_enter Tryd.func26, Tryd.ntmps26
  go_wp2
  go_loopw [6] (fun v w' => ∃ (b m f : Nat) (l : List (Nat × Nat)), m ≤ f ∧ 1 ≤ m ∧ b ≤ idx ∧ idx < b + m ∧ b + m ≤ N ∧ l.length + m ≤ N ∧ Hid (Dn w w' v b (b + m) l) ∧ Hid (R = Tree.pthF f b m idx ++ l.reverse)) (fun v _ => N - slLen v)
  case atStart => exact ⟨0, N, N, [], Nat.le_refl _, by omega, by omega, by omega, by omega, by simp, HD, by rw [Hid, List.reverse_nil, List.append_nil]; exact HR.out.symm⟩
  case round =>
    clear HD HR
    obtain ⟨b, m, f, l, hmf, hm1, hb1, hb2, hbN, hlN, hD, hE⟩ := hrel
    have hsl := hD.out.ow.slLen
    obtain ⟨va, vc, hva, _, _⟩ := hD.out.ow.shape
    subst hva
    have c0 := hD.out.sp.c0
    have c1 := hD.out.sp.c1
    have g0 := hD.out.sp.f0
    have g1 := hD.out.sp.f1
    by_cases hm2 : 2 ≤ m
    · have hm2 : 2 ≤ m := by omega
      obtain ⟨f, rfl⟩ : ∃ f', f = f' + 1 := ⟨f - 1, by omega⟩
      have s1 := Tree.sp_lt hm2
      have s2 := Tree.sp_pos hm2
      obtain ⟨mid, hmid⟩ : ∃ mid, b + Tree.sp m = mid := ⟨_, rfl⟩
      have hmh : Hid (mid = b + Tree.sp (b + m - b)) := by rw [Hid, Nat.add_sub_cancel_left]; exact hmid.symm
      have i1 := fun w' => rMiddle_at b (b + m) mid (by omega) (by omega) hmh w'
      have i2 := fun w' => rleft_at b (b + m) mid (by omega) (by omega) hmh w'
      have i3 := fun w' => rright_at b (b + m) mid (by omega) (by omega) hmh w'
      have hE := hE.out
      rw [Tree.pthF] at hE
      rw [if_neg (by omega)] at hE
      have HD := hD
      clear hD hmh
      obtain ⟨ee, hee⟩ : ∃ ee, b + m = ee := ⟨_, rfl⟩
      rw [hee] at HD i1 i2 i3 c1
      have q1 : (1 : Int) < (ee : Int) - (b : Int) := by omega
      have q2 : IntKind.i64.wrap ((ee : Int) - (b : Int)) = (ee : Int) - (b : Int) := by rw [IntKind.wrap_i64]; omega
      by_cases ht : idx < mid
      · have t1 : (idx : Int) < (mid : Int) := by omega
        rw [if_pos (by omega)] at hE
        have hE2 : R = Tree.pthF f b (Tree.sp m) idx ++ (l ++ [(mid, ee)]).reverse := by rw [List.reverse_append, List.reverse_singleton, hE, hmid, hee, List.append_assoc]
        have HE := hid hE2
        have hsum : b + (Tree.sp m) = mid := by omega
        clear hE hE2
        go_wp2_with (go_at_call 42; fail)
        refine (i1 _).mono ?_
        rintro r wa ⟨rfl, ba⟩
        have HDa := hid (HD.out.below ba)
        have e0 := HDa.out.sp.c0
        have e1 := HDa.out.sp.c1
        clear ba c0 c1 g0 g1 HD
        go_wp2_with (go_at_call 48; fail)
        refine (i3 _).mono ?_
        rintro r wb ⟨rfl, bb⟩
        have HDb := HDa.out.below bb
        obtain ⟨v', wc, hap, Oc, Gc⟩ := append_pair wb _ l mid ee HDb.ow (by omega)
        have HDc := hid (HDb.grow Gc Oc)
        have k0 := HDc.out.sp.c0
        have k1 := HDc.out.sp.c1
        clear bb HDb HDa Oc Gc e0 e1
        rw [show sg mid ee = Value.agg #[.int .i64 (mid : Int), .int .i64 (ee : Int)] from rfl]
        go_wp2_with (first
          | (go_at_call 47; fail)
          | (at_builtin; go_must (refine Lib.wpList_append_run _ rfl _ _ 34 34 rfl _ _ rfl rfl _ _ hap ?_)))
        refine (i2 _).mono ?_
        rintro r wd ⟨rfl, bd⟩
        have HDd := HDc.out.below bd
        have n0 := HDd.sp.c0
        have n1 := HDd.sp.c1
        have m0 := HDd.sp.f0
        have m1 := HDd.sp.f1
        have HDf := HDd.set b mid
        have HDf := hid HDf
        have hsl2 := HDd.ow.slLen
        clear bd HDc HDd k0 k1
        rw [show sg b mid = Value.agg #[.int .i64 (b : Int), .int .i64 (mid : Int)] from rfl]
        go_wp2
        refine ⟨⟨b, (Tree.sp m), f, l ++ [(mid, ee)], by omega, by omega, by omega, by omega, by omega, by rw [List.length_append]; simp; omega, by rw [hsum]; exact HDf, HE⟩, ?_⟩
        rw [hsl2, hsl, List.length_append]
        simp
        omega
      · have t1 : ¬ (idx : Int) < (mid : Int) := by omega
        rw [if_neg (by omega)] at hE
        have hE2 : R = Tree.pthF f mid (m - Tree.sp m) idx ++ (l ++ [(b, mid)]).reverse := by rw [List.reverse_append, List.reverse_singleton, hE, hmid, List.append_assoc]
        have HE := hid hE2
        have hsum : mid + (m - Tree.sp m) = ee := by omega
        clear hE hE2
        go_wp2_with (go_at_call 42; fail)
        refine (i1 _).mono ?_
        rintro r wa ⟨rfl, ba⟩
        have HDa := hid (HD.out.below ba)
        have e0 := HDa.out.sp.c0
        have e1 := HDa.out.sp.c1
        clear ba c0 c1 g0 g1 HD
        go_wp2_with (go_at_call 47; fail)
        refine (i2 _).mono ?_
        rintro r wb ⟨rfl, bb⟩
        have HDb := HDa.out.below bb
        obtain ⟨v', wc, hap, Oc, Gc⟩ := append_pair wb _ l b mid HDb.ow (by omega)
        have HDc := hid (HDb.grow Gc Oc)
        have k0 := HDc.out.sp.c0
        have k1 := HDc.out.sp.c1
        clear bb HDb HDa Oc Gc e0 e1
        rw [show sg b mid = Value.agg #[.int .i64 (b : Int), .int .i64 (mid : Int)] from rfl]
        go_wp2_with (first
          | (go_at_call 48; fail)
          | (at_builtin; go_must (refine Lib.wpList_append_run _ rfl _ _ 34 34 rfl _ _ rfl rfl _ _ hap ?_)))
        refine (i3 _).mono ?_
        rintro r wd ⟨rfl, bd⟩
        have HDd := HDc.out.below bd
        have n0 := HDd.sp.c0
        have n1 := HDd.sp.c1
        have m0 := HDd.sp.f0
        have m1 := HDd.sp.f1
        have HDf := HDd.set mid ee
        have HDf := hid HDf
        have hsl2 := HDd.ow.slLen
        clear bd HDc HDd k0 k1
        rw [show sg mid ee = Value.agg #[.int .i64 (mid : Int), .int .i64 (ee : Int)] from rfl]
        go_wp2
        refine ⟨⟨mid, (m - Tree.sp m), f, l ++ [(b, mid)], by omega, by omega, by omega, by omega, by omega, by rw [List.length_append]; simp; omega, by rw [hsum]; exact HDf, HE⟩, ?_⟩
        rw [hsl2, hsl, List.length_append]
        simp
        omega
    · obtain rfl : m = 1 := by omega
      have hE := hE.out
      rw [Tree.pthF_small (by omega), List.nil_append] at hE
      have q1 : ¬ (1 : Int) < ((b + 1 : Nat) : Int) - (b : Int) := by omega
      have q2 : IntKind.i64.wrap (((b + 1 : Nat) : Int) - (b : Int)) = ((b + 1 : Nat) : Int) - (b : Int) := by rw [IntKind.wrap_i64]; omega
      have i4 := turned_any l va vc wr (by omega) (OwnP.atP hD.out.ow)
      have HB := hid hD.out.bel
      subst hE
      clear hD
      go_wp2_with (go_at_call 58; refine i4.mono ?_; rintro r wt ⟨vt, rfl, Ot, Ft, bt⟩; have HO := hid Ot; have HF := hid Ft; have HB2 := hid (HB.out.trans (bt.mono HB.out.size)); have hbs := HB.out.size; clear Ot Ft bt)
      refine bodyPost_ret (results_tmp2 rfl _ _ _) rfl ?_
      exact ⟨HB2.out, vt, rfl, HO.out, fun k hk => Nat.le_trans hbs (HF.out k hk)⟩
theorem rPath8_any (n i : Int) (w : World) : Calls Tryd.prog 26 #[.int .i64 n, .int .i64 i] w (SpP w (pathE n i) (pathL n i)) := by
  by_cases h1 : 1 ≤ n ∧ n ≤ 1099511627776
  · by_cases h2 : 0 ≤ i ∧ i < n
    · obtain ⟨N, rfl⟩ : ∃ N : Nat, n = (N : Int) := ⟨n.toNat, by omega⟩
      obtain ⟨I, rfl⟩ : ∃ I : Nat, i = (I : Int) := ⟨i.toNat, by omega⟩
      have hE : pathE (N : Int) (I : Int) = 0 := by unfold pathE; rw [if_pos h1, if_pos h2]
      have hL : pathL (N : Int) (I : Int) = Tree.pthF N 0 N I := by unfold pathL; rw [if_pos hE, Int.toNat_natCast, Int.toNat_natCast]
      rw [hE, hL]
      exact rPath8_ok N I (by omega) (by omega) w
    · have hE : pathE n i = 80 := by unfold pathE; rw [if_pos h1, if_neg h2]
      have hL : pathL n i = [] := by unfold pathL; rw [if_neg (by rw [hE]; decide)]
      rw [hE, hL]
      have fin := SpP.nil (w := w) (c := 80)
      go_enter Tryd.func26, Tryd.ntmps26
      have a1 : ¬ n < 1 := by omega
      have a2 : ¬ 1099511627776 < n := by omega
      by_cases h3 : i < 0
      · go_wp2
        refine bodyPost_ret (results_tmp2 rfl _ _ _) rfl ?_
        exact fin
      · have h4 : n ≤ i := by omega
        go_wp2
        refine bodyPost_ret (results_tmp2 rfl _ _ _) rfl ?_
        exact fin
  · have hE : pathE n i = 81 := by unfold pathE; rw [if_neg h1]
    have hL : pathL n i = [] := by unfold pathL; rw [if_neg (by rw [hE]; decide)]
    rw [hE, hL]
    have fin := SpP.nil (w := w) (c := 81)
    go_enter Tryd.func26, Tryd.ntmps26
    by_cases h3 : n < 1
    · go_wp2
      refine bodyPost_ret (results_tmp2 rfl _ _ _) rfl ?_
      exact fin
    · have h4 : 1099511627776 < n := by omega
      go_wp2
      refine bodyPost_ret (results_tmp2 rfl _ _ _) rfl ?_
      exact fin
end Go.Proofs.YtejdecfpegpgcaaDoor

namespace Go.Proofs.YtejdecfpegpgcaaDoor
open Go.RowKit Go.Shelf
/-- append(a, b...) of spans -/
theorem append_spl (w : World) (v1 v2 : Value) (l m : List (Nat × Nat)) (h1 : OwnP w v1 l) (h2 : OwnP w v2 m) (hl : l.length ≤ 1099511627776) (hm : m.length ≤ 1099511627776) :
    ∃ v' w', (Builtin.append_ #[34, 34] 34 #[v1, v2]).run Tryd.prog w = .ok v' w' ∧ OwnP w' v' (l ++ m) ∧ Grow w w' v1 v' := by
  obtain ⟨i0, hi, hz0, hz1, hz2⟩ := info_parts infoSp8
  have one : ∀ u ∈ prs m, u.oneCell' = true := fun u hu => by
    simp only [prs, List.mem_flatMap, List.mem_cons, List.not_mem_nil, or_false] at hu
    obtain ⟨q, _, rfl | rfl⟩ := hu <;> rfl
  have hsrc : Src Tryd.prog 2 34 v2 m.length (prs m) w := by
    rcases h2 with ⟨rfl, h, h'⟩ | ⟨g, cap, rfl, _, _, h0, h4, _, _⟩
    · rw [h, h']; exact Src.ofNil w Tryd.underlying34 0
    · exact Src.ofSlice w Tryd.underlying34 ⟨g, 0, none⟩ m.length cap (prs m) h0 (fun j u hj => by rw [Addr.add_mid]; exact h4 j u hj) one
  by_cases hz : v1 = .slice none 0 0 ∧ m.length = 0
  · obtain ⟨rfl, hm0⟩ := hz
    have hl0 : l.length = 0 := by
      rcases h1 with ⟨_, h, _⟩ | ⟨g, cap, h, _⟩
      · exact h
      · cases h
    obtain rfl : l = [] := List.length_eq_zero_iff.1 hl0
    obtain rfl : m = [] := List.length_eq_zero_iff.1 hm0
    refine ⟨.slice none 0 0, w, ?_, OwnM.nil 2 w, ⟨rfl, rfl, rfl, Nat.le_refl _, fun _ _ _ => rfl, .inl rfl⟩⟩
    rcases h2 with ⟨rfl, _⟩ | ⟨g, cap, rfl, _⟩
    · kernel_rfl
    · kernel_rfl
  · obtain ⟨v', w', a1, a2, a3⟩ := run_append_M (P := Tryd.prog) w 34 34 34 25 i0 (.agg #[.int .i64 0, .int .i64 0]) Tryd.underlying34 hi hz0 hz1 rfl v1 l.length (prs l) h1 v2 m.length (prs m) hsrc
      (by rw [hz2]; omega) (by rw [maxLen]; omega) (fun e => by
        rcases Nat.eq_zero_or_pos m.length with h | h
        · exact absurd ⟨e, h⟩ hz
        · exact h)
    refine ⟨v', w', a1, ?_, a3⟩
    rw [OwnP, prs_append, List.length_append]
    exact a2
theorem below_drewN8 {B : Nat} {a w : World} (h : Below B a w) (n : Nat) : Below B a (w.drewN n) := ⟨h.os, h.tape, h.output, h.size, h.block⟩
theorem OwnP.one (w : World) (x y : Nat) : OwnP (w.alloc (.cells #[.int .i64 (x : Int), .int .i64 (y : Int)] 25)) (.slice (some ⟨w.heap.size, 0, none⟩) 1 1) [(x, y)] := by
  have r := heap_alloc_new w (.cells #[.int .i64 (x : Int), .int .i64 (y : Int)] 25)
  refine .inr ⟨w.heap.size, 1, rfl, Nat.le_refl _, by rw [maxLen]; omega, rfl, fun j v hv => ?_, there_of_row r 0 2 (by simp), lt_of_heap r⟩
  rw [cell_of_row _ _ _ _ _ _ r, Nat.zero_add]
  simpa [prs] using hv
theorem Tree.tch_snoc (is : List Nat) (b e : Nat) {j i : Nat} (h : is[j]? = some i) : Tree.tch (is.take (j + 1)) b e = (Tree.tch (is.take j) b e || decide (b ≤ i ∧ i < e)) := by
  unfold Tree.tch
  rw [List.take_add_one, h, Option.toList_some, List.any_append]; simp
set_option maxRecDepth 100000 in
set_option maxHeartbeats 2000000 in
theorem touched_any (b e : Nat) (is : List Nat) (a : Option Addr) (c : Nat) (w : World) (hl : is.length ≤ 1000000) (hA : AtI w a (ix is)) :
    Calls Tryd.prog 107 #[sg b e, .slice a is.length c] w fun r w' => r = .returned (.bool (Tree.tch is b e)) ∧ Below w.heap.size w w' := by
  have S0 := SpI.new w b e
  have B0 := hid ((Below.refl _ w).alloc (Nat.le_refl _) (.cells #[.int .i64 (b : Int), .int .i64 (e : Int)] 25))
  have HS := hid S0
  have HA := hid hA
  obtain ⟨n, hn⟩ : ∃ n, is.length = n := ⟨_, rfl⟩
  have HN := hid hn
  rw [hn] at hl ⊢
  clear S0 hA hn
  go_enter Tryd.func107, Tryd.ntmps107
  go_wp2
  generalize w.alloc (.cells #[.int .i64 (b : Int), .int .i64 (e : Int)] 25) = w1 at *
  go_loopw [5] (fun i w' => ∃ J : Nat, J ≤ n ∧ i = .int .i64 (J : Int) ∧ Hid (Tree.tch (is.take J) b e = false) ∧ Hid (Below w1.heap.size w1 w')) (fun i _ => n - (RowKit.intOf i).toNat)
  case atStart => exact ⟨0, by omega, rfl, rfl, hid (Below.refl _ _)⟩
  case round =>
    obtain ⟨J, hJ, rfl, hT, hB⟩ := hrel
    by_cases hJn : J < n
    · have b1 : (J : Int) < (n : Int) := by omega
      have j0 : (0 : Int) ≤ (J : Int) := by omega
      obtain ⟨i, hi⟩ : ∃ i, is[J]? = some i := ⟨_, List.getElem?_eq_getElem (by rw [HN.out]; exact hJn)⟩
      have hsn := Tree.tch_snoc is b e hi
      rw [hT.out, Bool.false_or] at hsn
      have HSN := hid hsn
      have hall : Hid (b ≤ i ∧ i < e → Tree.tch is b e = true) := fun hbe => Tree.tch_mem.2 ⟨i, List.mem_of_getElem? hi, hbe⟩
      obtain ⟨x, rfl, xb, c0⟩ := HA.out J (i : Int) (ix_get hi)
      have c0 := (B0.out.cell (p := x.add J) (by rw [addr_block]; exact xb)).trans c0
      have c0 := (hB.out.cell (p := x.add J) (by rw [addr_block]; exact Nat.lt_of_lt_of_le xb B0.out.size)).trans c0
      have S1 := HS.out.below hB.out
      have d0 := S1.c0
      have d1 := S1.c1
      have BW := hid (B0.out.trans (hB.out.mono B0.out.size))
      clear S1 hi hsn hT
      by_cases hb : b ≤ i
      · have t1 : (b : Int) ≤ (i : Int) := by omega
        by_cases he : i < e
        · have t2 : (i : Int) < (e : Int) := by omega
          have hT2 := hid (hall.out ⟨hb, he⟩)
          go_wp2
          go_quiet (fail)
          go_wp2
          go_ret
          exact ⟨by rw [hT2.out]; rfl, below_drewN8 BW.out _⟩
        · have t2 : ¬ (i : Int) < (e : Int) := by omega
          have hs2 : Hid (Tree.tch (is.take (J + 1)) b e = false) := by rw [Hid, HSN.out]; exact decide_eq_false (by omega)
          go_wp2
          go_quiet (fail)
          go_wp2
          exact ⟨⟨J + 1, by omega, by go_num, hs2, hid (below_drewN8 hB.out _)⟩, by simp [RowKit.intOf]; omega⟩
      · have t1 : ¬ (b : Int) ≤ (i : Int) := by omega
        have hs2 : Hid (Tree.tch (is.take (J + 1)) b e = false) := by rw [Hid, HSN.out]; exact decide_eq_false (by omega)
        go_wp2
        go_quiet (fail)
        go_wp2
        exact ⟨⟨J + 1, by omega, by go_num, hs2, hid (below_drewN8 hB.out _)⟩, by simp [RowKit.intOf]; omega⟩
    · obtain rfl : J = n := by omega
      have b1 : ¬ (J : Int) < (J : Int) := by omega
      have hT := hT.out
      rw [List.take_of_length_le (by rw [HN.out]; exact Nat.le_refl _)] at hT
      have hT2 := hid hT
      clear hT
      go_wp2
      go_ret
      exact ⟨by rw [hT2.out]; rfl, B0.out.trans (hB.out.mono B0.out.size)⟩
set_option maxRecDepth 100000 in
set_option maxHeartbeats 2000000 in
theorem others_any (is : List Nat) (a : Option Addr) (c : Nat) (hl : is.length ≤ 1000000) : ∀ (f b n : Nat), n ≤ f → 1 ≤ n → b + n ≤ 1099511627776 → ∀ (w : World), AtI w a (ix is) →
    Calls Tryd.prog 86 #[sg b ((b + n : Nat) : Int), .slice a is.length c] w fun r w' => ∃ v, r = .returned v ∧ OwnP w' v (Tree.othF f b n is) ∧ (∀ k, v.ownBlock = some k → w.heap.size ≤ k) ∧ Below w.heap.size w w'
  | 0, b, n, h, h1, _ => by omega
  | f + 1, b, n, h, h1, h2 => by
    intro w hA
    have S0 := SpI.new w b ((b + n : Nat) : Int)
    have B0 := hid ((Below.refl _ w).alloc (Nat.le_refl _) (.cells #[.int .i64 (b : Int), .int .i64 ((b + n : Nat) : Int)] 25))
    have c0 := S0.c0
    have c1 := S0.c1
    have A1 := hA.below B0.out (Nat.le_refl _)
    obtain ⟨e, he⟩ : ∃ e, b + n = e := ⟨_, rfl⟩
    rw [he] at S0 B0 c0 c1 A1 ⊢
    have i1 := touched_any b e is a c _ hl A1
    have HS := hid S0
    have HA := hid A1
    clear S0 A1 hA
    have q2 : IntKind.i64.wrap ((e : Int) - (b : Int)) = (n : Int) := by rw [IntKind.wrap_i64]; omega
    by_cases ht : Tree.tch is b e = false
    · have hres : Tree.othF (f + 1) b n is = [(b, e)] := by rw [Tree.othF_no (by rw [he]; exact ht), he]
      rw [ht] at i1
      have HR := hid hres
      go_enter Tryd.func86, Tryd.ntmps86
      go_wp2_with (go_at_call 107; refine i1.mono ?_; rintro r w2 ⟨rfl, b2⟩; have S2 := HS.out.below b2; have d0 := S2.c0; have d1 := S2.c1; have B2 := hid (B0.out.trans (b2.mono B0.out.size)); clear b2 S2)
      go_ret
      exact ⟨_, rfl, by rw [HR.out]; exact OwnP.one w2 b e, (fun k hk => by cases hk; exact B2.out.size), B2.out.alloc B2.out.size _⟩
    · have ht1 : Tree.tch is b e = true := by simpa using ht
      rw [ht1] at i1
      by_cases hn1 : n = 1
      · subst hn1
        have hres : Tree.othF (f + 1) b 1 is = [] := Tree.othF_one (by rw [he]; exact ht1) (by omega)
        have HR := hid hres
        go_enter Tryd.func86, Tryd.ntmps86
        go_wp2_with (go_at_call 107; refine i1.mono ?_; rintro r w2 ⟨rfl, b2⟩; have S2 := HS.out.below b2; have d0 := S2.c0; have d1 := S2.c1; have B2 := hid (B0.out.trans (b2.mono B0.out.size)); clear b2 S2)
        go_ret
        exact ⟨_, rfl, by rw [HR.out]; exact OwnM.nil 2 _, (fun k hk => by cases hk), B2.out⟩
      · have hn2 : 2 ≤ n := by omega
        have s1 := Tree.sp_lt hn2
        have s2 := Tree.sp_pos hn2
        have hres : Tree.othF (f + 1) b n is = Tree.othF f b (Tree.sp n) is ++ Tree.othF f (b + Tree.sp n) (n - Tree.sp n) is := Tree.othF_two (by rw [he]; exact ht1) hn2
        have ih1 := others_any is a c hl f b (Tree.sp n) (by omega) s2 (by omega)
        have ih2 := others_any is a c hl f (b + Tree.sp n) (n - Tree.sp n) (by omega) (by omega) (by omega)
        have hcnt1 : (Tree.othF f b (Tree.sp n) is).length ≤ 1099511627776 := by
          have := Apt_len (Tree.othF_apart is f b (Tree.sp n) s2 (by omega)); omega
        have hcnt2 : (Tree.othF f (b + Tree.sp n) (n - Tree.sp n) is).length ≤ 1099511627776 := by
          have := Apt_len (Tree.othF_apart is f (b + Tree.sp n) (n - Tree.sp n) (by omega) (by omega)); omega
        obtain ⟨mid, hmid⟩ : ∃ mid, b + Tree.sp n = mid := ⟨_, rfl⟩
        have hmh : Hid (mid = b + Tree.sp (e - b)) := by rw [Hid, ← he, Nat.add_sub_cancel_left]; exact hmid.symm
        have i2 := fun w' => rleft_at b e mid (by omega) (by omega) hmh w'
        have i3 := fun w' => rright_at b e mid (by omega) (by omega) hmh w'
        rw [show b + Tree.sp n + (n - Tree.sp n) = e by omega] at ih2
        rw [hmid] at ih1 ih2 hres hcnt2
        have HR := hid hres
        have q3 : ¬ (n : Int) = 1 := by omega
        clear hres hmh
        generalize Tree.othF f b (Tree.sp n) is = LA at *
        generalize Tree.othF f mid (n - Tree.sp n) is = LB at *
        go_enter Tryd.func86, Tryd.ntmps86
        go_wp2_with (first
          | (go_at_call 107; refine i1.mono ?_; rintro r w2 ⟨rfl, b2⟩; have S2 := hid (HS.out.below b2); have d0 := S2.out.c0; have d1 := S2.out.c1; have B2 := hid (B0.out.trans (b2.mono B0.out.size)); have A2 := hid (HA.out.below b2 (Nat.le_refl _)); clear b2)
          | (go_at_call 47; refine (i2 _).mono ?_; rintro r w3 ⟨rfl, b3⟩; have S3 := hid (S2.out.below b3); have B3 := hid (B2.out.trans (b3.mono B2.out.size)); have A3 := hid (A2.out.below b3 (Nat.le_refl _)); clear b3 S2 A2)
          | (go_at_call 48; refine (i3 _).mono ?_; rintro r w5 ⟨rfl, b5⟩; have B5 := hid (B4.out.trans (b5.mono B4.out.size)); have A5 := hid (A4.out.below b5 (Nat.le_refl _)); have O5 := hid (O4.out.below b5); clear b5 A4 S4 O4)
          | (go_at_call 86; fail))
        refine (ih1 _ A3.out).mono ?_
        rintro r w4 ⟨va, rfl, o4, f4, b4⟩
        have S4 := hid (S3.out.below b4)
        have d0 := S4.out.c0
        have d1 := S4.out.c1
        have z3 := B3.out.size
        have B4 := hid (B3.out.trans (b4.mono B3.out.size))
        have A4 := hid (A3.out.below b4 (Nat.le_refl _))
        have O4 := hid o4
        have F4 := hid f4
        clear o4 f4 b4 S3 A3
        go_wp2_with (first
          | (go_at_call 48; refine (i3 _).mono ?_; rintro r w5 ⟨rfl, b5⟩; have B5 := hid (B4.out.trans (b5.mono B4.out.size)); have A5 := hid (A4.out.below b5 (Nat.le_refl _)); have O5 := hid (O4.out.below b5); clear b5 A4 S4 O4)
          | (go_at_call 86; fail))
        refine (ih2 _ A5.out).mono ?_
        rintro r w6 ⟨vb, rfl, o6, f6, b6⟩
        obtain ⟨v', w7, hap, O7, G7⟩ := append_spl w6 va vb LA LB (O5.out.below b6) o6 hcnt1 hcnt2
        have B6 := B5.out.trans (b6.mono B5.out.size)
        have z6 := B6.size
        have B7 : Below w.heap.size w w7 := B6.trans ⟨G7.os, G7.tape, G7.output, G7.size, fun k hk => G7.old k (by omega) (fun e' => by have := F4.out k e'; omega)⟩
        have F7 : ∀ k, v'.ownBlock = some k → w.heap.size ≤ k := fun k hk => by
          rcases G7.alt with e1 | ⟨e1, _⟩
          · have := F4.out k (e1 ▸ hk); omega
          · have := e1 k hk; omega
        have HB7 := hid B7
        have HF7 := hid F7
        have HO7 := hid O7
        clear o6 f6 b6 O7 G7 B7 F7 B6
        go_wp2_with (at_builtin; go_must (refine Lib.wpList_append_run _ rfl _ _ 34 34 rfl _ _ rfl rfl _ _ hap ?_))
        go_ret
        exact ⟨_, rfl, by rw [HR.out]; exact HO7.out, HF7.out, HB7.out⟩
end Go.Proofs.YtejdecfpegpgcaaDoor

namespace Go.Proofs.YtejdecfpegpgcaaDoor
open Go.RowKit Go.Shelf
set_option maxRecDepth 100000 in
set_option maxHeartbeats 2000000 in
theorem rbeside_any (x y : Nat) (hxy : x < y) (hy : y ≤ 1099511627776) : ∀ (f b n : Nat), n ≤ f → 1 ≤ n → b + n ≤ 1099511627776 → ∀ (w : World),
    Calls Tryd.prog 62 #[sg b ((b + n : Nat) : Int), sg x y] w fun r w' => ∃ v, r = .returned v ∧ OwnP w' v (Tree.runF f b n x y) ∧ (∀ k, v.ownBlock = some k → w.heap.size ≤ k) ∧ Below w.heap.size w w'
  | 0, b, n, h, h1, _ => by omega
  | f + 1, b, n, h, h1, h2 => by
    intro w
    obtain ⟨e, he⟩ : ∃ e, b + n = e := ⟨_, rfl⟩
    rw [he]
    have S0 := SpI.new w b e
    have B0 := (Below.refl _ w).alloc (Nat.le_refl _) (.cells #[.int .i64 (b : Int), .int .i64 (e : Int)] 25)
    have X0 := SpI.new (w.alloc (.cells #[.int .i64 (b : Int), .int .i64 (e : Int)] 25)) x y
    have S1 := S0.below ((Below.refl _ _).alloc (Nat.le_refl _) (.cells #[.int .i64 (x : Int), .int .i64 (y : Int)] 25))
    have B1 := hid (B0.alloc (by rw [size_alloc]; omega) (.cells #[.int .i64 (x : Int), .int .i64 (y : Int)] 25))
    rw [size_alloc] at X0
    have c0 := S1.c0
    have c1 := S1.c1
    have d0 := X0.c0
    have d1 := X0.c1
    have HS := hid S1
    have HX := hid X0
    clear S0 B0 S1 X0
    by_cases hd : e ≤ x ∨ y ≤ b
    · have hres : Tree.runF (f + 1) b n x y = [(b, e)] := by rw [Tree.runF, he, if_pos hd]
      have HR := hid hres
      have ow := OwnP.one ((w.alloc (.cells #[.int .i64 (b : Int), .int .i64 (e : Int)] 25)).alloc (.cells #[.int .i64 (x : Int), .int .i64 (y : Int)] 25)) b e
      rw [size_alloc, size_alloc] at ow
      have OW := hid ow
      clear hres ow
      by_cases hd1 : e ≤ x
      · have t1 : (e : Int) ≤ (x : Int) := by omega
        go_enter Tryd.func62, Tryd.ntmps62
        go_wp2
        go_ret
        exact ⟨_, rfl, by rw [HR.out]; exact OW.out, (fun k hk => by cases hk; show w.heap.size ≤ w.heap.size + 1 + 1; omega), B1.out.alloc B1.out.size _⟩
      · have t1 : ¬ (e : Int) ≤ (x : Int) := by omega
        have t2 : (y : Int) ≤ (b : Int) := by omega
        go_enter Tryd.func62, Tryd.ntmps62
        go_wp2
        go_ret
        exact ⟨_, rfl, by rw [HR.out]; exact OW.out, (fun k hk => by cases hk; show w.heap.size ≤ w.heap.size + 1 + 1; omega), B1.out.alloc B1.out.size _⟩
    · have t1 : ¬ (e : Int) ≤ (x : Int) := by omega
      have t2 : ¬ (y : Int) ≤ (b : Int) := by omega
      by_cases hi : x ≤ b ∧ e ≤ y
      · have hres : Tree.runF (f + 1) b n x y = [] := by rw [Tree.runF, he, if_neg hd, if_pos hi]
        have HR := hid hres
        have t3 : (x : Int) ≤ (b : Int) := by omega
        have t4 : (e : Int) ≤ (y : Int) := by omega
        clear hres
        go_enter Tryd.func62, Tryd.ntmps62
        go_wp2
        go_ret
        exact ⟨_, rfl, by rw [HR.out]; exact OwnM.nil 2 _, (fun k hk => by cases hk), B1.out⟩
      · have hn2 : 2 ≤ n := by omega
        have s1 := Tree.sp_lt hn2
        have s2 := Tree.sp_pos hn2
        have hres : Tree.runF (f + 1) b n x y = Tree.runF f b (Tree.sp n) x y ++ Tree.runF f (b + Tree.sp n) (n - Tree.sp n) x y := by rw [Tree.runF, he, if_neg hd, if_neg hi]
        have ih1 := rbeside_any x y hxy hy f b (Tree.sp n) (by omega) s2 (by omega)
        have ih2 := rbeside_any x y hxy hy f (b + Tree.sp n) (n - Tree.sp n) (by omega) (by omega) (by omega)
        have hcnt1 : (Tree.runF f b (Tree.sp n) x y).length ≤ 1099511627776 := by
          have := Apt_len (Tree.runF_apart x y f b (Tree.sp n) s2 (by omega) hxy); omega
        have hcnt2 : (Tree.runF f (b + Tree.sp n) (n - Tree.sp n) x y).length ≤ 1099511627776 := by
          have := Apt_len (Tree.runF_apart x y f (b + Tree.sp n) (n - Tree.sp n) (by omega) (by omega) hxy); omega
        obtain ⟨mid, hmid⟩ : ∃ mid, b + Tree.sp n = mid := ⟨_, rfl⟩
        have hmh : Hid (mid = b + Tree.sp (e - b)) := by rw [Hid, ← he, Nat.add_sub_cancel_left]; exact hmid.symm
        have i2 := fun w' => rleft_at b e mid (by omega) (by omega) hmh w'
        have i3 := fun w' => rright_at b e mid (by omega) (by omega) hmh w'
        rw [show b + Tree.sp n + (n - Tree.sp n) = e by omega] at ih2
        rw [hmid] at ih1 ih2 hres hcnt2
        have HR := hid hres
        have hpick : Hid (¬ ((x : Int) ≤ (b : Int) ∧ (e : Int) ≤ (y : Int))) := by rw [Hid]; omega
        clear hres hmh
        generalize Tree.runF f b (Tree.sp n) x y = LA at *
        generalize Tree.runF f mid (n - Tree.sp n) x y = LB at *
        by_cases t3 : (x : Int) ≤ (b : Int)
        · have t4 : ¬ (e : Int) ≤ (y : Int) := by have := hpick.out; omega
          go_enter Tryd.func62, Tryd.ntmps62
          go_upto_region 5 with fail
          generalize (w.alloc (.cells #[.int .i64 (b : Int), .int .i64 (e : Int)] 25)).alloc (.cells #[.int .i64 (x : Int), .int .i64 (y : Int)] 25) = w1 at *
          have lS := lt_of_heap HS.out
          have lX := lt_of_heap HX.out
          go_cut [5] (fun v w' => Hid (OwnP w' v LA) ∧ Hid (∀ k, v.ownBlock = some k → w1.heap.size ≤ k) ∧ Hid (Below w1.heap.size w1 w'))
          case first =>
            go_region_held3 (fun w' => w'.cell? ⟨w.heap.size, 0, none⟩ = some (.int .i64 (b : Int)) ∧ w'.cell? ⟨w.heap.size, 1, none⟩ = some (.int .i64 (e : Int)) ∧ w'.cell? ⟨w.heap.size + 1, 0, none⟩ = some (.int .i64 (x : Int)) ∧ w'.cell? ⟨w.heap.size + 1, 1, none⟩ = some (.int .i64 (y : Int))) (first | exact e5 | exact e4 | exact ⟨c0, c1, d0, d1⟩)
              (first
                | (go_at_call 47; (with_reducible refine (i2 _).mono ?_); rintro r w2 ⟨rfl, b2'⟩; have b2 := drewBelow8 b2'; have e4 := And.intro ((b2.cell (p := ⟨w.heap.size, 0, none⟩) lS).trans c0) (And.intro ((b2.cell (p := ⟨w.heap.size, 1, none⟩) lS).trans c1) (And.intro ((b2.cell (p := ⟨w.heap.size + 1, 0, none⟩) lX).trans d0) ((b2.cell (p := ⟨w.heap.size + 1, 1, none⟩) lX).trans d1))))
                | (go_at_call 62; (with_reducible refine (ih1 _).mono ?_); rintro r w3 ⟨v3, rfl, O3, F3, b3⟩; have b13 := b2.trans (b3.mono b2.size); have e5 := And.intro ((b13.cell (p := ⟨w.heap.size, 0, none⟩) lS).trans c0) (And.intro ((b13.cell (p := ⟨w.heap.size, 1, none⟩) lS).trans c1) (And.intro ((b13.cell (p := ⟨w.heap.size + 1, 0, none⟩) lX).trans d0) ((b13.cell (p := ⟨w.heap.size + 1, 1, none⟩) lX).trans d1)))))
            all_goals
              have HO := hid O3
              have HF : Hid (∀ k, v3.ownBlock = some k → w1.heap.size ≤ k) := fun k hk => Nat.le_trans b2.size (F3 k hk)
              have HB3 := hid b13
              clear O3 F3 b3 b13 b2 b2' e4 e5
              go_wp2_with fail
              go_meet
              exact ⟨HO, HF, HB3⟩
          case rest =>
            obtain ⟨OA, FA, BA⟩ := hcut
            obtain ⟨w4, rfl⟩ : ∃ w', w' = wc := ⟨_, rfl⟩
            have S4 := HS.out.below BA.out
            have X4 := HX.out.below BA.out
            have c0 := S4.c0
            have c1 := S4.c1
            have d0 := X4.c0
            have d1 := X4.c1
            have lS := lt_of_heap S4
            have lX := lt_of_heap X4
            clear S4 X4
            go_upto_region 6 with fail
            go_cut [6] (fun v w' => Hid (OwnP w' v LB) ∧ Hid (Below w4.heap.size w4 w'))
            case first =>
              go_region_held3 (fun w' => w'.cell? ⟨w.heap.size, 0, none⟩ = some (.int .i64 (b : Int)) ∧ w'.cell? ⟨w.heap.size, 1, none⟩ = some (.int .i64 (e : Int)) ∧ w'.cell? ⟨w.heap.size + 1, 0, none⟩ = some (.int .i64 (x : Int)) ∧ w'.cell? ⟨w.heap.size + 1, 1, none⟩ = some (.int .i64 (y : Int))) (first | exact e5 | exact e4 | exact ⟨c0, c1, d0, d1⟩)
                (first
                  | (go_at_call 48; (with_reducible refine (i3 _).mono ?_); rintro r w2 ⟨rfl, b2'⟩; have b2 := drewBelow8 b2'; have e4 := And.intro ((b2.cell (p := ⟨w.heap.size, 0, none⟩) lS).trans c0) (And.intro ((b2.cell (p := ⟨w.heap.size, 1, none⟩) lS).trans c1) (And.intro ((b2.cell (p := ⟨w.heap.size + 1, 0, none⟩) lX).trans d0) ((b2.cell (p := ⟨w.heap.size + 1, 1, none⟩) lX).trans d1))))
                  | (go_at_call 62; (with_reducible refine (ih2 _).mono ?_); rintro r w3 ⟨v3, rfl, O3, F3, b3⟩; have b13 := b2.trans (b3.mono b2.size); have e5 := And.intro ((b13.cell (p := ⟨w.heap.size, 0, none⟩) lS).trans c0) (And.intro ((b13.cell (p := ⟨w.heap.size, 1, none⟩) lS).trans c1) (And.intro ((b13.cell (p := ⟨w.heap.size + 1, 0, none⟩) lX).trans d0) ((b13.cell (p := ⟨w.heap.size + 1, 1, none⟩) lX).trans d1)))))
              all_goals
                have HO := hid O3
                have HB3 := hid b13
                clear O3 F3 b3 b13 b2 b2' e4 e5
                go_wp2_with fail
                go_meet
                exact ⟨HO, HB3⟩
            case rest =>
              obtain ⟨OB, BB⟩ := hcut
              obtain ⟨v', w7, hap, O7, G7⟩ := append_spl wc _ _ LA LB (OA.out.below BB.out) OB.out hcnt1 hcnt2
              have z1 := B1.out.size
              have B6 := (B1.out.trans (BA.out.mono z1)).trans (BB.out.mono (Nat.le_trans z1 BA.out.size))
              have z6 := B6.size
              have B7 := hid (B6.trans ⟨G7.os, G7.tape, G7.output, G7.size, fun k hk => G7.old k (by omega) (fun e' => by have := FA.out k e'; omega)⟩)
              have F7 : Hid (∀ k, v'.ownBlock = some k → w.heap.size ≤ k) := fun k hk => by
                rcases G7.alt with e1 | ⟨e1, _⟩
                · have := FA.out k (e1 ▸ hk); omega
                · have := e1 k hk; omega
              have HO7 := hid O7
              clear O7 G7 B6 OA OB
              go_wp2_with (at_builtin; go_must (refine Lib.wpList_append_run _ rfl _ _ 34 34 rfl _ _ rfl rfl _ _ hap ?_))
              go_ret
              exact ⟨_, rfl, by rw [HR.out]; exact HO7.out, F7.out, B7.out⟩
        · go_enter Tryd.func62, Tryd.ntmps62
          go_upto_region 5 with fail
          generalize (w.alloc (.cells #[.int .i64 (b : Int), .int .i64 (e : Int)] 25)).alloc (.cells #[.int .i64 (x : Int), .int .i64 (y : Int)] 25) = w1 at *
          have lS := lt_of_heap HS.out
          have lX := lt_of_heap HX.out
          go_cut [5] (fun v w' => Hid (OwnP w' v LA) ∧ Hid (∀ k, v.ownBlock = some k → w1.heap.size ≤ k) ∧ Hid (Below w1.heap.size w1 w'))
          case first =>
            go_region_held3 (fun w' => w'.cell? ⟨w.heap.size, 0, none⟩ = some (.int .i64 (b : Int)) ∧ w'.cell? ⟨w.heap.size, 1, none⟩ = some (.int .i64 (e : Int)) ∧ w'.cell? ⟨w.heap.size + 1, 0, none⟩ = some (.int .i64 (x : Int)) ∧ w'.cell? ⟨w.heap.size + 1, 1, none⟩ = some (.int .i64 (y : Int))) (first | exact e5 | exact e4 | exact ⟨c0, c1, d0, d1⟩)
              (first
                | (go_at_call 47; (with_reducible refine (i2 _).mono ?_); rintro r w2 ⟨rfl, b2'⟩; have b2 := drewBelow8 b2'; have e4 := And.intro ((b2.cell (p := ⟨w.heap.size, 0, none⟩) lS).trans c0) (And.intro ((b2.cell (p := ⟨w.heap.size, 1, none⟩) lS).trans c1) (And.intro ((b2.cell (p := ⟨w.heap.size + 1, 0, none⟩) lX).trans d0) ((b2.cell (p := ⟨w.heap.size + 1, 1, none⟩) lX).trans d1))))
                | (go_at_call 62; (with_reducible refine (ih1 _).mono ?_); rintro r w3 ⟨v3, rfl, O3, F3, b3⟩; have b13 := b2.trans (b3.mono b2.size); have e5 := And.intro ((b13.cell (p := ⟨w.heap.size, 0, none⟩) lS).trans c0) (And.intro ((b13.cell (p := ⟨w.heap.size, 1, none⟩) lS).trans c1) (And.intro ((b13.cell (p := ⟨w.heap.size + 1, 0, none⟩) lX).trans d0) ((b13.cell (p := ⟨w.heap.size + 1, 1, none⟩) lX).trans d1)))))
            all_goals
              have HO := hid O3
              have HF : Hid (∀ k, v3.ownBlock = some k → w1.heap.size ≤ k) := fun k hk => Nat.le_trans b2.size (F3 k hk)
              have HB3 := hid b13
              clear O3 F3 b3 b13 b2 b2' e4 e5
              go_wp2_with fail
              go_meet
              exact ⟨HO, HF, HB3⟩
          case rest =>
            obtain ⟨OA, FA, BA⟩ := hcut
            obtain ⟨w4, rfl⟩ : ∃ w', w' = wc := ⟨_, rfl⟩
            have S4 := HS.out.below BA.out
            have X4 := HX.out.below BA.out
            have c0 := S4.c0
            have c1 := S4.c1
            have d0 := X4.c0
            have d1 := X4.c1
            have lS := lt_of_heap S4
            have lX := lt_of_heap X4
            clear S4 X4
            go_upto_region 6 with fail
            go_cut [6] (fun v w' => Hid (OwnP w' v LB) ∧ Hid (Below w4.heap.size w4 w'))
            case first =>
              go_region_held3 (fun w' => w'.cell? ⟨w.heap.size, 0, none⟩ = some (.int .i64 (b : Int)) ∧ w'.cell? ⟨w.heap.size, 1, none⟩ = some (.int .i64 (e : Int)) ∧ w'.cell? ⟨w.heap.size + 1, 0, none⟩ = some (.int .i64 (x : Int)) ∧ w'.cell? ⟨w.heap.size + 1, 1, none⟩ = some (.int .i64 (y : Int))) (first | exact e5 | exact e4 | exact ⟨c0, c1, d0, d1⟩)
                (first
                  | (go_at_call 48; (with_reducible refine (i3 _).mono ?_); rintro r w2 ⟨rfl, b2'⟩; have b2 := drewBelow8 b2'; have e4 := And.intro ((b2.cell (p := ⟨w.heap.size, 0, none⟩) lS).trans c0) (And.intro ((b2.cell (p := ⟨w.heap.size, 1, none⟩) lS).trans c1) (And.intro ((b2.cell (p := ⟨w.heap.size + 1, 0, none⟩) lX).trans d0) ((b2.cell (p := ⟨w.heap.size + 1, 1, none⟩) lX).trans d1))))
                  | (go_at_call 62; (with_reducible refine (ih2 _).mono ?_); rintro r w3 ⟨v3, rfl, O3, F3, b3⟩; have b13 := b2.trans (b3.mono b2.size); have e5 := And.intro ((b13.cell (p := ⟨w.heap.size, 0, none⟩) lS).trans c0) (And.intro ((b13.cell (p := ⟨w.heap.size, 1, none⟩) lS).trans c1) (And.intro ((b13.cell (p := ⟨w.heap.size + 1, 0, none⟩) lX).trans d0) ((b13.cell (p := ⟨w.heap.size + 1, 1, none⟩) lX).trans d1)))))
              all_goals
                have HO := hid O3
                have HB3 := hid b13
                clear O3 F3 b3 b13 b2 b2' e4 e5
                go_wp2_with fail
                go_meet
                exact ⟨HO, HB3⟩
            case rest =>
              obtain ⟨OB, BB⟩ := hcut
              obtain ⟨v', w7, hap, O7, G7⟩ := append_spl wc _ _ LA LB (OA.out.below BB.out) OB.out hcnt1 hcnt2
              have z1 := B1.out.size
              have B6 := (B1.out.trans (BA.out.mono z1)).trans (BB.out.mono (Nat.le_trans z1 BA.out.size))
              have z6 := B6.size
              have B7 := hid (B6.trans ⟨G7.os, G7.tape, G7.output, G7.size, fun k hk => G7.old k (by omega) (fun e' => by have := FA.out k e'; omega)⟩)
              have F7 : Hid (∀ k, v'.ownBlock = some k → w.heap.size ≤ k) := fun k hk => by
                rcases G7.alt with e1 | ⟨e1, _⟩
                · have := FA.out k (e1 ▸ hk); omega
                · have := e1 k hk; omega
              have HO7 := hid O7
              clear O7 G7 B6 OA OB
              go_wp2_with (at_builtin; go_must (refine Lib.wpList_append_run _ rfl _ _ 34 34 rfl _ _ rfl rfl _ _ hap ?_))
              go_ret
              exact ⟨_, rfl, by rw [HR.out]; exact HO7.out, F7.out, B7.out⟩
end Go.Proofs.YtejdecfpegpgcaaDoor

namespace Go.Proofs.YtejdecfpegpgcaaDoor
open Go.RowKit Go.Shelf
set_option maxRecDepth 100000 in
set_option maxHeartbeats 2000000 in
theorem rRun8_any (n x y : Int) (w : World) : Calls Tryd.prog 30 #[.int .i64 n, sg x y] w (SpP w (runE n x y) (runL n x y)) := by
  have S0 := SpI.new w x y
  have B0 := hid ((Below.refl _ w).alloc (Nat.le_refl _) (.cells #[.int .i64 x, .int .i64 y] 25))
  have c0 := S0.c0
  have c1 := S0.c1
  have nil : ∀ c : Int, SpP w c [] (.returned (.tuple #[.slice none 0 0, .int .i64 c])) (w.alloc (.cells #[.int .i64 x, .int .i64 y] 25)) := fun c => ⟨B0.out, _, rfl, OwnM.nil 2 _, (fun k hk => by cases hk)⟩
  by_cases h1 : 1 ≤ n ∧ n ≤ 1099511627776
  · have a1 : ¬ n < 1 := by omega
    have a2 : ¬ 1099511627776 < n := by omega
    by_cases h2 : 0 ≤ x ∧ x < y ∧ y ≤ n
    · obtain ⟨N, rfl⟩ : ∃ N : Nat, n = (N : Int) := ⟨n.toNat, by omega⟩
      obtain ⟨X, rfl⟩ : ∃ X : Nat, x = (X : Int) := ⟨x.toNat, by omega⟩
      obtain ⟨Y, rfl⟩ : ∃ Y : Nat, y = (Y : Int) := ⟨y.toNat, by omega⟩
      have hE : runE (N : Int) (X : Int) (Y : Int) = 0 := by unfold runE; rw [if_pos h1, if_pos h2]
      have hL : runL (N : Int) (X : Int) (Y : Int) = Tree.runF N 0 N X Y := by unfold runL; rw [if_pos hE, Int.toNat_natCast, Int.toNat_natCast, Int.toNat_natCast]
      rw [hE, hL]
      have i1 := fun w' => rbeside_any X Y (by omega) (by omega) N 0 N (Nat.le_refl _) (by omega) (by omega) w'
      rw [Nat.zero_add] at i1
      generalize Tree.runF N 0 N X Y = R at *
      have a3 : ¬ (X : Int) < 0 := by omega
      have a4 : ¬ (Y : Int) ≤ (X : Int) := by omega
      have a5 : ¬ (N : Int) < (Y : Int) := by omega
      clear nil hE hL
      go_enter Tryd.func30, Tryd.ntmps30
      go_wp2_with (go_at_call 62; fail)
      refine (i1 _).mono ?_
      rintro r w2 ⟨v, rfl, O2, F2, b2⟩
      have z := B0.out.size
      have fin : SpP w 0 R (.returned (.tuple #[v, .int .i64 0])) w2 := ⟨B0.out.trans (b2.mono z), v, rfl, O2, fun k hk => Nat.le_trans z (F2 k hk)⟩
      have FIN := hid fin
      clear fin O2 F2 b2 i1
      go_wp2
      refine bodyPost_ret (results_tmp2 rfl _ _ _) rfl ?_
      exact FIN.out
    · have hE : runE n x y = 80 := by unfold runE; rw [if_pos h1, if_neg h2]
      have hL : runL n x y = [] := by unfold runL; rw [if_neg (by rw [hE]; decide)]
      rw [hE, hL]
      have fin := nil 80
      clear nil hE hL
      by_cases h3 : x < 0
      · go_enter Tryd.func30, Tryd.ntmps30
        go_wp2
        refine bodyPost_ret (results_tmp2 rfl _ _ _) rfl ?_
        exact fin
      · by_cases h4 : y ≤ x
        · go_enter Tryd.func30, Tryd.ntmps30
          go_wp2
          refine bodyPost_ret (results_tmp2 rfl _ _ _) rfl ?_
          exact fin
        · have h5 : n < y := by omega
          go_enter Tryd.func30, Tryd.ntmps30
          go_wp2
          refine bodyPost_ret (results_tmp2 rfl _ _ _) rfl ?_
          exact fin
  · have hE : runE n x y = 81 := by unfold runE; rw [if_neg h1]
    have hL : runL n x y = [] := by unfold runL; rw [if_neg (by rw [hE]; decide)]
    rw [hE, hL]
    have fin := nil 81
    clear nil hE hL
    by_cases h3 : n < 1
    · go_enter Tryd.func30, Tryd.ntmps30
      go_wp2
      refine bodyPost_ret (results_tmp2 rfl _ _ _) rfl ?_
      exact fin
    · have h4 : 1099511627776 < n := by omega
      go_enter Tryd.func30, Tryd.ntmps30
      go_wp2
      refine bodyPost_ret (results_tmp2 rfl _ _ _) rfl ?_
      exact fin
end Go.Proofs.YtejdecfpegpgcaaDoor

namespace Go.Proofs.YtejdecfpegpgcaaDoor
open Go.RowKit Go.Shelf
theorem batchE_rise {n : Int} {l : List Int} (h1 : 1 ≤ n ∧ n ≤ 1099511627776) (h2 : ¬ (l.length = 0 ∨ 256 < l.length)) (hr : rsgB l = true) : batchE n l = if 0 ≤ l.getD 0 0 ∧ l.getD (l.length - 1) 0 < n then 0 else 80 := by
  have hp : l.Pairwise (· < ·) := by unfold rsgB at hr; exact of_decide_eq_true hr
  have hfl : l.getD 0 0 ≤ l.getD (l.length - 1) 0 := by
    rw [getD_at (show 0 < l.length by omega), getD_at (show l.length - 1 < l.length by omega)]
    by_cases e : l.length = 1
    · have : l.length - 1 = 0 := by omega
      simp [this]
    · have := List.pairwise_iff_getElem.1 hp 0 (l.length - 1) (by omega) (by omega) (by omega)
      omega
  unfold batchE
  rw [if_pos h1, if_neg h2, if_pos hr]
  by_cases h3 : 0 ≤ l.getD 0 0 ∧ l.getD (l.length - 1) 0 < n
  · rw [if_pos h3, if_pos (by omega), if_pos (by omega)]
  · rw [if_neg h3]
    split
    · rw [if_neg (by omega)]
    · rfl
set_option maxRecDepth 100000 in
set_option maxHeartbeats 4000000 in
theorem rBatch8_any (N : Int) (l : List Int) (a : Option Addr) (cap : Nat) (w : World) (hn : l.length ≤ 140737488355328) (hA : AtI w a l) :
    Calls Tryd.prog 60 #[.int .i64 N, .slice a l.length cap] w (SpP w (batchE N l) (batchL N l)) := by
  have HA := hid hA
  have nil : ∀ (c : Int) (w' : World), Below w.heap.size w w' → SpP w c [] (.returned (.tuple #[.slice none 0 0, .int .i64 c])) w' := fun c w' hb => ⟨hb, _, rfl, OwnM.nil 2 _, (fun k hk => by cases hk)⟩
  have NIL := hid nil
  obtain ⟨E, hE⟩ : ∃ E, Hid (batchE N l = E) := ⟨_, rfl⟩
  obtain ⟨R, hR⟩ : ∃ R, Hid (batchL N l = R) := ⟨_, rfl⟩
  have hR0 : Hid (E ≠ 0 → R = []) := fun h => by rw [← hR.out]; unfold batchL; rw [if_neg (by rw [hE.out]; exact h)]
  rw [hE.out, hR.out]
  obtain ⟨n, hl⟩ : ∃ n, Hid (l.length = n) := ⟨_, rfl⟩
  rw [hl.out] at hn ⊢
  clear nil hA
  by_cases h1 : 1 ≤ N ∧ N ≤ 1099511627776
  · have a1 : ¬ N < 1 := by omega
    have a2 : ¬ 1099511627776 < N := by omega
    by_cases h2 : n = 0 ∨ 256 < n
    · have e83 : Hid (E = 83) := by rw [Hid, ← hE.out]; unfold batchE; rw [if_pos h1, if_pos (by rw [hl.out]; exact h2)]
      have fin : Hid (SpP w E R (.returned (.tuple #[.slice none 0 0, .int .i64 83])) w) := by rw [Hid, hR0.out (by rw [e83.out]; decide), e83.out]; exact NIL.out 83 w (Below.refl _ _)
      by_cases h3 : n < 1
      · have b1 : (n : Int) < 1 := by omega
        go_enter Tryd.func60, Tryd.ntmps60
        go_wp2
        refine bodyPost_ret (results_tmp2 rfl _ _ _) rfl ?_
        exact fin.out
      · have b1 : ¬ (n : Int) < 1 := by omega
        have b2 : 256 < (n : Int) := by omega
        go_enter Tryd.func60, Tryd.ntmps60
        go_wp2
        refine bodyPost_ret (results_tmp2 rfl _ _ _) rfl ?_
        exact fin.out
    · have b1 : ¬ (n : Int) < 1 := by omega
      have b2 : ¬ 256 < (n : Int) := by omega
      have HN := hid (show 1 ≤ n ∧ n ≤ 256 by omega)
      have H1 := hid h1
      clear h1 h2
      go_enter Tryd.func60, Tryd.ntmps60
      go_wp2
      go_loopw [6] (fun i w' => ∃ m : Nat, i = .int .i64 (m : Int) ∧ 1 ≤ m ∧ (m = 1 ∨ m ≤ n) ∧ Hid (∀ j x y, j + 1 < m → l[j]? = some x → l[j + 1]? = some y → x < y) ∧ Hid (Below w.heap.size w w')) (fun i _ => n - (intOf i).toNat)
      case atStart => exact ⟨1, rfl, Nat.le_refl _, .inl rfl, fun j x y hj => by omega, Below.refl _ _⟩
      case round =>
        obtain ⟨m, rfl, hm1, hk, hall, hB⟩ := hrel
        by_cases hkn : m < n
        · have b0 : (m : Int) < (n : Int) := by omega
          obtain ⟨k, hkm⟩ : ∃ k, Hid (k + 1 = m) := ⟨m - 1, show m - 1 + 1 = m by omega⟩
          have hkm' := hkm.out
          obtain ⟨x, rfl⟩ := HA.out.pos (by have := hl.out; omega)
          have hA' := HA.out.below hB.out (Nat.le_refl _)
          have hl' := hl.out
          have c0 := hA'.cell k (by omega)
          have c1 := hA'.cell m (by omega)
          have g0 : Hid (l[k]? = some (l[k]'(by omega))) := List.getElem?_eq_getElem _
          have g1 : Hid (l[m]? = some (l[m]'(by omega))) := List.getElem?_eq_getElem _
          generalize l[k]'(by omega) = u at *
          generalize l[m]'(by omega) = v at *
          have u0 : IntKind.i64.wrap ((m : Int) - 1) = (k : Int) := by rw [IntKind.wrap_i64]; omega
          have u1 : IntKind.i64.wrap ((m : Int) + 1) = ((m + 1 : Nat) : Int) := by rw [IntKind.wrap_i64]; omega
          have b3 : (k : Int) < (n : Int) := by omega
          have b4 : (0 : Int) ≤ (k : Int) := by omega
          have b5 : (0 : Int) ≤ (m : Int) := by omega
          clear hA' hl' hkm'
          by_cases huv : u < v
          · have d1 : decide (v ≤ u) = false := decide_eq_false (by omega)
            have hall' : Hid (∀ j x y, j + 1 < m + 1 → l[j]? = some x → l[j + 1]? = some y → x < y) := fun j x y hj hx hy => by
              by_cases e : j = k
              · subst e
                rw [g0.out] at hx; rw [hkm.out, g1.out] at hy
                obtain rfl := Option.some.inj hx
                obtain rfl := Option.some.inj hy
                exact huv
              · have := hkm.out; exact hall.out j x y (by omega) hx hy
            clear HA hall g0 g1 HN
            go_wp2
            go_quiet (fail)
            go_wp2
            exact ⟨⟨m + 1, rfl, by omega, .inr (by omega), hall', by first | exact hB | exact hid hB.out.drew | exact hid (below_drewN hB.out _)⟩, by simp [intOf]; omega⟩
          · have d1 : decide (v ≤ u) = true := decide_eq_true (by omega)
            have e82 : Hid (E = 82) := by
              rw [Hid, ← hE.out]; unfold batchE
              rw [if_pos H1.out, if_neg (by rw [hl.out]; have := HN.out; omega), if_neg]
              unfold rsgB
              rw [decide_eq_true_iff]
              intro h
              exact huv (rsg_of_pair h k u v g0.out (by rw [hkm.out]; exact g1.out))
            have fin : Hid (∀ w', Below w.heap.size w w' → SpP w E R (.returned (.tuple #[.slice none 0 0, .int .i64 82])) w') := fun w' hb => by rw [hR0.out (by rw [e82.out]; decide), e82.out]; exact NIL.out 82 w' hb
            clear HA hall g0 g1 HN
            go_wp2
            go_quiet (fail)
            go_wp2
            refine bodyPost_ret (results_tmp2 rfl _ _ _) rfl ?_
            exact fin.out _ (by first | exact hB.out | exact hB.out.drew | exact below_drewN hB.out _)
        · have b0 : ¬ (m : Int) < (n : Int) := by omega
          have er : rsgB l = true := by
            unfold rsgB
            rw [decide_eq_true_iff]
            refine rsg_pair fun j x y hx hy => hall.out j x y ?_ hx hy
            have := (List.getElem?_eq_some_iff.1 hy).1
            have := hl.out
            omega
          have hEr := batchE_rise H1.out (by rw [hl.out]; have := HN.out; omega) er
          rw [hE.out] at hEr
          have hn1 := HN.out
          have hll := hl.out
          obtain ⟨x, rfl⟩ := HA.out.pos (by omega)
          have hA' := HA.out.below hB.out (Nat.le_refl _)
          have c0 := hA'.cell 0 (by omega)
          rw [addr_zero] at c0
          have c1 := hA'.cell (n - 1) (by omega)
          rw [getD_at (show 0 < l.length by omega), getD_at (show l.length - 1 < l.length by omega)] at hEr
          have hl1 : l.length - 1 = n - 1 := by omega
          simp only [hl1] at hEr
          obtain ⟨k, hk⟩ : ∃ k, k + 1 = n := ⟨n - 1, by omega⟩
          have hk1 : n - 1 = k := by omega
          simp only [hk1] at hEr c1
          generalize hu : l[0]'(by omega) = u at *
          generalize hv : l[k]'(by omega) = v at *
          have u0 : IntKind.i64.wrap ((n : Int) - 1) = (k : Int) := by rw [IntKind.wrap_i64]; omega
          have b3 : (k : Int) < (n : Int) := by omega
          have b4 : (0 : Int) ≤ (k : Int) := by omega
          have b6 : (0 : Int) < (n : Int) := by omega
          have HEr := hid hEr
          by_cases hbad : u < 0 ∨ N ≤ v
          · have e80 : Hid (E = 80) := by rw [Hid, HEr.out, if_neg (by omega)]
            have fin : Hid (SpP w E R (.returned (.tuple #[.slice none 0 0, .int .i64 80])) wr) := by rw [Hid, hR0.out (by rw [e80.out]; decide), e80.out]; exact NIL.out 80 wr hB.out
            clear hEr hA' hall er HEr
            by_cases h5 : u < 0
            · go_wp2
              refine bodyPost_ret (results_tmp2 rfl _ _ _) rfl ?_
              exact fin.out
            · have h6 : N ≤ v := by omega
              go_wp2
              refine bodyPost_ret (results_tmp2 rfl _ _ _) rfl ?_
              exact fin.out
          · have h5 : ¬ u < 0 := by omega
            have h6 : ¬ N ≤ v := by omega
            have e0 : E = 0 := by rw [HEr.out, if_pos (by omega)]
            have hE0 : batchE N l = 0 := by rw [hE.out]; exact e0
            have hBk := BatOk.of hE0
            obtain ⟨NN, rfl⟩ : ∃ NN : Nat, N = (NN : Int) := ⟨N.toNat, by have := hBk.n1; omega⟩
            have hn1' := hBk.n1
            have hn2' := hBk.n2
            have hRe : R = Tree.othF NN 0 NN (toN l) := by rw [← hR.out]; unfold batchL; rw [if_pos hE0, Int.toNat_natCast]
            have hix := hBk.okI.ix
            have A2 : AtI wr (some x) (ix (toN l)) := by rw [hix]; exact hA'
            have i1 := others_any (toN l) (some x) cap (by rw [toN_len]; omega) NN 0 NN (Nat.le_refl _) (by omega) (by omega) wr A2
            rw [Nat.zero_add, toN_len, hll, ← hRe] at i1
            have z := hB.out.size
            have HB := hB
            subst e0
            clear hEr hA' hall er HEr hRe hix A2 hBk hE0 hR hR0 hE
            go_wp2_with (go_at_call 86; fail)
            refine i1.mono ?_
            rintro r w2 ⟨v2, rfl, O2, F2, b2⟩
            have FIN : Hid (SpP w 0 R (.returned (.tuple #[v2, .int .i64 0])) w2) := ⟨HB.out.trans (b2.mono z), v2, rfl, O2, fun k hk => Nat.le_trans z (F2 k hk)⟩
            clear O2 F2 b2 i1
            go_wp2
            refine bodyPost_ret (results_tmp2 rfl _ _ _) rfl ?_
            exact FIN.out
  · have e81 : Hid (E = 81) := by rw [Hid, ← hE.out]; unfold batchE; rw [if_neg h1]
    have fin : Hid (SpP w E R (.returned (.tuple #[.slice none 0 0, .int .i64 81])) w) := by rw [Hid, hR0.out (by rw [e81.out]; decide), e81.out]; exact NIL.out 81 w (Below.refl _ _)
    by_cases h3 : N < 1
    · go_enter Tryd.func60, Tryd.ntmps60
      go_wp2
      refine bodyPost_ret (results_tmp2 rfl _ _ _) rfl ?_
      exact fin.out
    · have h4 : 1099511627776 < N := by omega
      go_enter Tryd.func60, Tryd.ntmps60
      go_wp2
      refine bodyPost_ret (results_tmp2 rfl _ _ _) rfl ?_
      exact fin.out
end Go.Proofs.YtejdecfpegpgcaaDoor
