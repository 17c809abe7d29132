import Derived.Test.YtmldibbbfmnckaaDoorCRF5
import Derived.Test.YtmldibbbfmnckaaDoorCFN6
import Derived.Test.YtmldibbbfmnckaaDoorCO19
import Derived.Test.YtmldibbbfmnckaaDoorCO28
import Derived.Deep.DeepCutAuto
import Derived.Test.YtmldibbbfmnckaaDoorCFN7
import Derived.Test.YtmldibbbfmnckaaDoorCFN4
namespace Go.Proofs.YtmldibbbfmnckaaDoor
open Go.RowKit
set_option maxRecDepth 100000 in
set_option maxHeartbeats 8000000 in
theorem rCompact_any (fr : Int) (l : List (List UInt8)) (a : Option Addr) (cap : Nat) (w : World) (h1 : -9223372036854775808 ≤ fr) (h2 : fr ≤ 9223372036854775807) (hl : l.length ≤ 9223372036854775807) (hlc : l.length ≤ cap) (hcap : cap ≤ 9223372036854775807) (hA : At w a l) :
    Calls Tryd.prog 26 #[.int .i64 fr, .slice a l.length cap] w (RgP w (cmpE fr l) fr (fr + l.length) (Cut.cmp l fr.toNat)) := by
  have BZ := hid ((Below.refl w.heap.size w).alloc (Nat.le_refl _) (.cells #[Value.int .i64 0, .int .i64 0, .slice none 0 0] 28))
  have RZ := hid (heap_alloc_new w (.cells #[Value.int .i64 0, .int .i64 0, .slice none 0 0] 28))
  by_cases c1 : 0 ≤ fr
  · have d1 : ¬ fr < 0 := by omega
    by_cases c1' : fr ≤ 1099511627776
    · have d1' : ¬ (1099511627776 : Int) < fr := by omega
      by_cases c2 : l.length ≤ 4096
      · have d2 : ¬ (4096 : Int) < (l.length : Int) := by omega
        by_cases c3 : fr + (l.length : Int) ≤ 1099511627776
        · have d3 : ¬ (1099511627776 : Int) < fr + (l.length : Int) := by omega
          by_cases c4 : hsB l = true
          · have e0 : cmpE fr l = 0 := by unfold cmpE; rw [if_pos ⟨c1, c1', c2⟩, if_pos c3, if_pos c4]
            rw [e0]
            have i2 := fun w' hA' => rhashes_is l true c4 a cap w' hl hA'
            obtain ⟨b, rfl⟩ := Int.eq_ofNat_of_zero_le c1
            rw [Int.toNat_natCast]
            have HA := hid hA
            obtain ⟨n, hn⟩ : ∃ n : Nat, Hid (l.length = n) := ⟨_, rfl⟩
            rw [hn.out] at i2 hl hlc c2 c3 d2 d3 ⊢
            have i3 := fun w' => rCut_any b (b + n) (by omega) (by omega) w'
            have w1z := hid (size_alloc w (.cells #[Value.int .i64 0, .int .i64 0, .slice none 0 0] 28))
            clear e0 hA c4 h1 h2
            go_enter Tryd.func26, Tryd.ntmps26
            go_wp2_with (first
              | (go_at_call 59; refine (i2 _ (HA.out.below BZ.out (Nat.le_refl _))).mono ?_; rintro r w2 ⟨rfl, rfl⟩)
              | (go_at_call 50; fail))
            obtain ⟨w8, hw8⟩ : ∃ w8, (w.alloc (.cells #[Value.int .i64 0, .int .i64 0, .slice none 0 0] 28)).alloc (.cells #[Value.int .i64 (b : Int), .int .i64 ((b : Int) + (n : Int)), .slice none 0 0] 28) = w8 := ⟨_, rfl⟩
            have w1s := w1z.out
            have r8 : w8.heap[w.heap.size + 1]? = some (.cells #[Value.int .i64 (b : Int), .int .i64 ((b : Int) + (n : Int)), .slice none 0 0] 28 (0, 0)) := by
              rw [← hw8]; exact heap_alloc_at _ _ _ w1s
            have b8 : Below (w.heap.size + 1) (w.alloc (.cells #[Value.int .i64 0, .int .i64 0, .slice none 0 0] 28)) w8 := by
              rw [← hw8]
              exact (Below.refl _ _).alloc (by omega) _
            have z8 : w8.heap.size = w.heap.size + 2 := by rw [← hw8, size_alloc, w1s]
            rw [hw8]
            have RZ8 : w8.heap[w.heap.size]? = some (.cells #[Value.int .i64 0, .int .i64 0, .slice none 0 0] 28 (0, 0)) := (b8.block _ (by omega)).trans RZ.out
            have B8 := BZ.out.trans (b8.mono (by omega))
            refine (i3 _).mono ?_
            rintro r w9 ⟨v9, rfl, S9, hw9⟩
            obtain ⟨R, hR⟩ : ∃ R, Hid (Cut.cmp l b = R) := ⟨_, rfl⟩
            obtain ⟨n9, hn9⟩ : ∃ n9, Hid ((Cut.cut b (b + n)).length = n9) := ⟨_, rfl⟩
            have hRl : Hid (R.length = n9) := by unfold Hid; rw [← hR.out, Cut.cmp_length, hn.out, hn9.out]
            have hn81 : n9 ≤ 81 := by rw [← hn9.out]; exact Cut.cut_len (by omega) (by omega)
            obtain ⟨ta, tc, rfl, _, _⟩ := S9.1.shape
            have O9 := hid S9.1
            have hO9 := hid S9.2
            rw [hn9.out] at O9 hO9 ⊢
            have hx9 := hw9.size
            have J0 : Hid (Jl w9 w9 (w.heap.size + 1) (b : Int) ((b : Int) + (n : Int)) (.slice none 0 0) (R.take 0)) := ⟨Rg.below r8 hw9, by rw [List.take_zero]; exact Own.nil _ _, Keep.refl _ _⟩
            have RZ9 := hid ((hw9.block w.heap.size (by omega)).trans RZ8)
            have HB9 := hid (B8.trans (hw9.mono B8.size))
            have hcov := hid (Cut.cut_cov (b := b) (e := b + n) (by omega) (by omega))
            clear S9 hw9 b8 r8 B8 RZ8 RZ BZ i2 i3 d2 d3 hw8 w1z w1s
            go_wp2
            go_loopw [9] (fun i w' => ∃ (j : Nat) (vh : Value), i = .int .i64 (j : Int) ∧ j ≤ n9 ∧ Hid (Jl w9 w' (w.heap.size + 1) (b : Int) ((b : Int) + (n : Int)) vh (R.take j))) (fun i _ => n9 - (intOf i).toNat)
            case atStart => exact ⟨0, _, rfl, by omega, J0⟩
            case round =>
              clear J0
              obtain ⟨j, vh, rfl, hj, hJ⟩ := hrel
              have ck := hJ.out.keep
              obtain ⟨va, vn, vc, rfl⟩ := own_sl hJ.out.own
              by_cases hjn : j < n9
              · have c0 : (j : Int) < (n9 : Int) := by omega
                obtain ⟨⟨p, m⟩, hq⟩ : ∃ q, (Cut.cut b (b + n))[j]? = some q := ⟨_, List.getElem?_eq_getElem (by have := hn9.out; omega)⟩
                have hmem := List.mem_of_getElem? hq
                have hp1 : b ≤ p := Cut.Cov.ge hcov.out _ hmem
                have hp2 : p + m ≤ b + n := Cut.Cov.within hcov.out _ hmem
                have hp3 : 0 < m := Cut.cov_pos hcov.out _ hmem
                have hx : R[j]? = some (Cut.lh l b (p, m)) := by rw [← hR.out, Cut.cmp, hn.out, List.getElem?_map, hq]; rfl
                have hl0 : Cut.lh l b (p, m) = Tree.root ((l.drop (p - b)).take m) := rfl
                have O9' := O9.out.keep ck fun k hk e => by
                  have h1 := hO9.out k hk
                  have h2 := O9.out.lt k hk
                  rcases e with e | e <;> omega
                have A9' := HA.out.below (HB9.out.trans (ck.toBelow (B := w.heap.size) (by omega) (fun k hk => by rcases hk with e | e <;> omega))) (Nat.le_refl _)
                obtain ⟨y, rfl⟩ := A9'.pos (by have := hn.out; omega)
                obtain ⟨g1, g2⟩ := spcs_get hq
                obtain ⟨g, gc, eg, t0, _⟩ := O9'.cell g1
                obtain ⟨g', gc', eg', t1, _⟩ := O9'.cell g2
                injection eg with eg1 eg2 eg3
                subst eg1 eg3
                injection eg' with eg1 eg2 eg3
                injection eg1 with eg1
                injection eg1 with eg1
                subst eg1
                obtain ⟨lo, hlo⟩ : ∃ lo : Nat, Hid (p - b = lo) := ⟨_, rfl⟩
                obtain ⟨f, hf⟩ : ∃ f : Nat, Hid (p + m = f) := ⟨_, rfl⟩
                obtain ⟨hi, hhi⟩ : ∃ hi : Nat, Hid (lo + m = hi) := ⟨_, rfl⟩
                have e1 := hlo.out
                have e2 := hf.out
                have e3 := hhi.out
                have m1 : (p : Int) - (b : Int) = (lo : Int) := by omega
                have m2 : (f : Int) - (b : Int) = (hi : Int) := by omega
                have m3 : (hi : Int) ≤ (cap : Int) := by omega
                have m4 : (lo : Int) ≤ (hi : Int) := by omega
                have m5 : ¬ cap = lo := by omega
                have m6 : hi - lo = m := by omega
                have m7 : IntKind.i64.wrap (hi : Int) = (hi : Int) := wrap_small _ (by omega) (by omega)
                have m8 : IntKind.i64.wrap (lo : Int) = (lo : Int) := wrap_small _ (by omega) (by omega)
                have m9 : max (hi : Int) 0 = (hi : Int) := by omega
                have t1' : wr.cell? ⟨g, j * 2 + 1, none⟩ = some (.int .i64 (f : Int)) := by rw [← e2]; exact t1
                have t0' : wr.cell? ⟨g, j * 2, none⟩ = some (.int .i64 (p : Int)) := t0
                have u2 := hJ.out.rg.c2
                have hA2 := (A9'.drop lo).take m
                have hlm : ((l.drop lo).take m).length = m := by rw [List.length_take, List.length_drop, hn.out]; omega
                have ih := R_any _ ((l.drop lo).take m) (some (y.add lo)) (cap - lo) wr.drew (Nat.le_refl _) (by omega) (by omega) (hA2.heap rfl)
                rw [hlm] at ih
                rw [e1] at hl0
                rw [← hl0] at ih
                have hxs : Hid (R.take j ++ [Cut.lh l b (p, m)] = R.take (j + 1)) := by
                  unfold Hid
                  obtain ⟨hlt, hx'⟩ := List.getElem?_eq_some_iff.1 hx
                  rw [← hx', List.take_append_getElem]
                generalize Cut.lh l b (p, m) = x at *
                have hRj : (R.take j).length ≤ 2000000 := by rw [List.length_take]; omega
                have hw49 : w.heap.size + 1 < w9.heap.size := by omega
                clear g1 g2 hq hx O9' A9' t0 t1 eg2 eg3 ck hmem hl0 hA2 hlm e1 e2 e3
                go_wp2
                go_region_law (first
                  | (refine step_append_run rfl _ _ 24 rfl _ _ _ w11 rfl rfl hap11 ?_)
                  | (go_simp; go_at_call 60; (with_reducible refine ih.mono ?_); rintro r w10 ⟨rfl, hw10⟩; have J10 := hJ.out.below (drewBelow5 hw10); have u2 := J10.rg.c2; have u3 := (J10.rg.below ((Below.refl _ w10).alloc (Nat.le_refl _) (.cells #[Value.string ⟨x.toArray⟩] 9))).c2; obtain ⟨v11, w11, hap11, O11, b11⟩ := append_text w10 w9.heap.size _ (R.take j) x J10.own hRj J10.keep.size; rw [hxs.out] at O11; obtain ⟨na, nn, nc, rfl⟩ := own_sl O11; obtain ⟨f11, c11', J11⟩ := J10.push hw49 O11 b11; rw [show sv x = Value.string ⟨x.toArray⟩ from rfl] at hap11 ⊢; dsimp only))
                all_goals
                  have HJ := hid J11
                  clear J11 O11 b11 hw10 hap11 J10
                  go_wp2
                all_goals exact ⟨⟨j + 1, _, val_succ j, Nat.succ_le_of_lt hjn, HJ⟩, dec_succ hjn⟩
              · obtain rfl : j = n9 := by omega
                have c0 : ¬ (j : Int) < (j : Int) := by omega
                have hRt : R.take j = R := List.take_of_length_le (by have := hRl.out; omega)
                have RRr : Hid (Rg wr w.heap.size 0 0 (.slice none 0 0)) := (ck.block w.heap.size (by omega) (by omega)).trans RZ9.out
                have KB := hid (ck.toBelow (B := w.heap.size) (by omega) (fun k hk => by rcases hk with e | e <;> omega))
                have k1 : Keep (fun k => k = w.heap.size) wr (wr.setRow w.heap.size #[.int .i64 (b : Int), .int .i64 ((b : Int) + (n : Int)), .slice va vn vc]) := ⟨rfl, rfl, rfl, by rw [setRow_size]; exact Nat.le_refl _, fun k _ hk => setRow_other wr _ k _ hk⟩
                have u0 := hJ.out.rg.c0
                have u1 := hJ.out.rg.c1
                have u2 := hJ.out.rg.c2
                clear ck
                go_wp2_with ((with_reducible show wpList _ _ _ (Oper.mk _ (Op.store 28 _ _) _ _ _ _ :: _) _ _); go_must (refine wpList_store_row rfl 28 _ _ rfl w.heap.size _ rfl rfl 28 _ RRr.out.row (sizeRg' _ _ _) rfl (oneRg _ _ _ _ _) ?_))
                refine bodyPost_ret (results_row_tmp rfl _ _ w.heap.size 28 _ (0, 0) _ rfl (setRow_heap _ _ _ _ _ _ RRr.out.row) Tryd.underlying28 rfl sizeRg) rfl ?_
                refine RgP.ok ?_ ?_
                · have ho := hJ.out.own
                  rw [hRt, ← hR.out] at ho
                  refine (ho.mono (show w.heap.size ≤ w9.heap.size by omega)).keep k1 fun k hk e => ?_
                  have := ho.ge k hk
                  omega
                · exact Below.setRow (HB9.out.trans KB.out) (Nat.le_refl _) _
          · have e0 : cmpE fr l = 52 := by unfold cmpE; rw [if_pos ⟨c1, c1', c2⟩, if_pos c3, if_neg c4]
            rw [e0]
            have i2 := fun w' hA' => rhashes_is l false (by simpa using c4) a cap w' hl hA'
            have HA := hid hA
            generalize l.length = n at *
            clear e0 hA c4
            go_enter Tryd.func26, Tryd.ntmps26
            go_wp2_with (go_at_call 59; refine (i2 _ (HA.out.below BZ.out (Nat.le_refl _))).mono ?_; rintro r w2 ⟨rfl, rfl⟩)
            refine bodyPost_ret (results_row_tmp rfl _ _ w.heap.size 28 _ (0, 0) _ rfl RZ.out Tryd.underlying28 rfl sizeRg) rfl ?_
            exact RgP.bad (by omega) BZ.out
        · have d3 : (1099511627776 : Int) < fr + (l.length : Int) := by omega
          have e0 : cmpE fr l = 53 := by unfold cmpE; rw [if_pos ⟨c1, c1', c2⟩, if_neg c3]
          rw [e0]
          generalize l.length = n at *
          clear e0 hA
          go_enter Tryd.func26, Tryd.ntmps26
          go_wp2
          refine bodyPost_ret (results_row_tmp rfl _ _ w.heap.size 28 _ (0, 0) _ rfl RZ.out Tryd.underlying28 rfl sizeRg) rfl ?_
          exact RgP.bad (by omega) BZ.out
      · have d2 : (4096 : Int) < (l.length : Int) := by omega
        have e0 : cmpE fr l = 1 := by unfold cmpE; rw [if_neg (fun h => c2 h.2.2)]
        rw [e0]
        generalize l.length = n at *
        clear e0 hA
        go_enter Tryd.func26, Tryd.ntmps26
        go_wp2
        refine bodyPost_ret (results_row_tmp rfl _ _ w.heap.size 28 _ (0, 0) _ rfl RZ.out Tryd.underlying28 rfl sizeRg) rfl ?_
        exact RgP.bad (by omega) BZ.out
    · have d1' : (1099511627776 : Int) < fr := by omega
      have e0 : cmpE fr l = 1 := by unfold cmpE; rw [if_neg (fun h => c1' h.2.1)]
      rw [e0]
      generalize l.length = n at *
      clear e0 hA
      go_enter Tryd.func26, Tryd.ntmps26
      go_wp2
      refine bodyPost_ret (results_row_tmp rfl _ _ w.heap.size 28 _ (0, 0) _ rfl RZ.out Tryd.underlying28 rfl sizeRg) rfl ?_
      exact RgP.bad (by omega) BZ.out
  · have d1 : fr < 0 := by omega
    have e0 : cmpE fr l = 1 := by unfold cmpE; rw [if_neg (fun h => c1 h.1)]
    rw [e0]
    generalize l.length = n at *
    clear e0 hA
    go_enter Tryd.func26, Tryd.ntmps26
    go_wp2
    refine bodyPost_ret (results_row_tmp rfl _ _ w.heap.size 28 _ (0, 0) _ rfl RZ.out Tryd.underlying28 rfl sizeRg) rfl ?_
    exact RgP.bad (by omega) BZ.out
end Go.Proofs.YtmldibbbfmnckaaDoor

namespace Go.Proofs.YtmldibbbfmnckaaDoor
open Go.RowKit
namespace Cut
open Tree
theorem cut02 : cut 0 2 = [(0, 2)] := by decide
theorem cmp2 (a b : T) : cmp [a, b] 0 = [nd a b] := by
  show List.map _ (cut 0 2) = _
  rw [cut02]
  show [root [a, b]] = _
  rw [root_cut (by simp)]
  rfl
/-- hashes of hashes are such -/
theorem cmp_hs {L : List T} {a : Nat} (h : Hs L) : Hs (cmp L a) := fun x hx => by
  obtain ⟨q, _, rfl⟩ := List.mem_map.1 hx
  exact root_hash ((h.drop _).take _)
end Cut
theorem hsB_of {l : List (List UInt8)} (h : Tree.Hs l) : hsB l = true := by
  unfold hsB
  rw [List.all_eq_true]
  intro x hx
  simpa using h x hx
/-- an edge of these leaves -/
def EdL (w : World) (q : Nat) (L : List (List UInt8)) (F : Nat → Prop) : Prop := Ed w q (Cut.cmp L 0) L.length F
theorem EdL.nil {w : World} {q : Nat} {F : Nat → Prop} (h : Ed w q [] 0 F) : EdL w q [] F := by
  unfold EdL; rw [Cut.cmp_nil]; exact h
theorem fAddL {w : World} {q : Nat} {L : List (List UInt8)} {F : Nat → Prop} (h : EdL w q L F) (x : List UInt8) (hx : x.length = 32) (hn : L.length < 1099511627776) (T : Tabs w) : Calls Tryd.prog 13 #[.pointer (some ⟨q, 0, none⟩), sv x] w fun r w' => r = .returned (.int .i64 0) ∧
      ∃ F', EdL w' q (L ++ [x]) F' ∧ Mov F w w' F' := by
  have := fAdd_any h x hx hn T
  have e := Cut.cmp_snoc (L := L) (a := 0) (x := x) (by omega)
  rw [Nat.zero_add] at e
  rw [e] at this
  refine this.mono ?_
  rintro r w' ⟨h1, F', h2, h3⟩
  refine ⟨h1, F', ?_, h3⟩
  unfold EdL
  rw [List.length_append]
  exact h2
theorem Mov.below {F F' : Nat → Prop} {w w' : World} {B : Nat} (h : Mov F w w' F') (hB : B ≤ w.heap.size) (hF : ∀ k, F k → B ≤ k) : Below B w w' ∧ ∀ k, F' k → B ≤ k := by
  refine ⟨⟨h.keep.os, h.keep.tape, h.keep.output, h.keep.size, fun k hk => h.keep.block k (by omega) fun e => ?_⟩, fun k hk => ?_⟩
  · have := hF k e; omega
  · rcases h.new k hk with e | e
    · exact hF k e
    · omega
theorem fRootL {w : World} {q : Nat} {L : List (List UInt8)} {F : Nat → Prop} (h : EdL w q L F) (T : Tabs w) {R : List UInt8} (hR : Hid (Tree.root L = R)) : Calls Tryd.prog 18 #[.pointer (some ⟨q, 0, none⟩)] w fun r w' => r = .returned (sv R) ∧ Below w.heap.size w w' := by
  have := fRoot_any h T
  rwa [Cut.cmp_root L h.most, hR.out] at this
set_option maxRecDepth 100000 in
set_option maxHeartbeats 2000000 in
theorem fknown_any (w : World) (T : Tabs w) :
    Calls Tryd.prog 6 #[] w fun e w' => e = .returned (.bool true) ∧ Below w.heap.size w w' := by
  obtain ⟨a, ha⟩ : ∃ a, Hid (lf 1 = a) := ⟨_, rfl⟩
  obtain ⟨b, hb⟩ : ∃ a, Hid (lf 2 = a) := ⟨_, rfl⟩
  have la : a.length = 32 := by rw [← ha.out, lf_length]
  have lb : b.length = 32 := by rw [← hb.out, lf_length]
  obtain ⟨N, hN⟩ : ∃ N, Hid (Tree.nd a b = N) := ⟨_, rfl⟩
  have hN2 : Hid (nodeOf a b = (N, 0)) := by
    unfold Hid nodeOf
    rw [← hN.out]
    unfold Tree.nd
    rw [if_pos ⟨la, lb⟩, if_pos ⟨la, lb⟩]
  have hroot : Hid (Tree.root [a, b] = N) := by
    unfold Hid; rw [root2, hN.out]
  have HT := hid T
  have hT := T.lt
  clear T
  go_enter Tryd.func6, Tryd.ntmps6
  go_wp2_with (go_at_call 12; refine (fNew_any _ hT).mono ?_; rintro e w1 ⟨rfl, E1, B1⟩)
  have E1 := hid (EdL.nil E1)
  have B1 := hid B1
  go_wp2_with (go_at_call 33; fail)
  refine (lleaf_at 1 a ha _).mono ?_
  rintro e w2 ⟨rfl, hw2⟩
  have B2 := hid (B1.out.trans (hw2.mono B1.out.size))
  have E2 := hid (Ed.below E1.out hw2)
  have T2 := hid (HT.out.below B2.out hT)
  clear hw2 E1 B1
  go_wp2_with (go_at_call 13; fail)
  refine (fAddL E2.out a la (by simp) T2.out).mono ?_
  rintro e w3 ⟨rfl, F3, E3, M3⟩
  obtain ⟨b3, f3⟩ := M3.below (B := w.heap.size) B2.out.size (fun k hk => hk.1)
  have B3 := hid (B2.out.trans b3)
  have E3 := hid E3
  have F3' := hid f3
  clear b3 f3 M3 E2 B2 T2
  go_wp2_with (go_at_call 33; fail)
  refine (lleaf_at 2 b hb _).mono ?_
  rintro e w4 ⟨rfl, hw4⟩
  have B4 := hid (B3.out.trans (hw4.mono B3.out.size))
  have E4 := hid (Ed.below E3.out hw4)
  have T4 := hid (HT.out.below B4.out hT)
  clear hw4 E3 B3
  go_wp2_with (go_at_call 13; fail)
  refine (fAddL E4.out b lb (by simp) T4.out).mono ?_
  rintro e w5 ⟨rfl, F5, E5, M5⟩
  obtain ⟨b5, f5⟩ := M5.below (B := w.heap.size) B4.out.size F3'.out
  have B5 := hid (B4.out.trans b5)
  have E5 : Hid (EdL w5 w.heap.size [a, b] F5) := hid E5
  clear b5 f5 M5 E4 B4 T4 F3'
  go_wp2_with (go_at_call 33; fail)
  refine (lleaf_at 1 a ha _).mono ?_
  rintro e w6 ⟨rfl, hw6⟩
  go_wp2_with (go_at_call 33; fail)
  refine (lleaf_at 2 b hb _).mono ?_
  rintro e w7 ⟨rfl, hw7⟩
  have H7 := hid (hw6.trans (hw7.mono hw6.size))
  have B7 := hid (B5.out.trans (H7.out.mono B5.out.size))
  have E7 := hid (Ed.below E5.out H7.out)
  have T7 := hid (HT.out.below B7.out hT)
  clear hw6 hw7 H7 E5 B5
  go_wp2_with (go_at_call 34; fail)
  refine (node_at hN2 _ T7.out).mono ?_
  rintro e w8 ⟨rfl, hw8⟩
  have B8 := hid (B7.out.trans (hw8.mono B7.out.size))
  have E8 := hid (Ed.below E7.out hw8)
  clear hw8 E7 B7 T7
  go_wp2_with (go_at_call 17; fail)
  refine (fNodes_any E8.out).mono ?_
  rintro e w9 ⟨rfl, R9, hw9⟩
  have B9 := hid (B8.out.trans (hw9.mono B8.out.size))
  have E9 := hid (Ed.below E8.out hw9)
  have T9 := hid (HT.out.below B9.out hT)
  rw [Cut.cmp2, hN.out] at R9
  have c9 := R9.cell (j := 0) (p := N) rfl
  have e1 : (Cut.cmp [a, b] 0).length = 1 := by rw [Cut.cmp2]; rfl
  rw [e1]
  have hlt9 := R9.lt
  clear hw9 E8 B8 R9
  have i1 := fSize_any (w := w9) E9.out
  have i2 := fRootL E9.out T9.out hroot
  rw [svS N] at c9 i2
  rw [svS N]
  rw [show ([a, b] : List (List UInt8)).length = 2 from rfl] at i1
  go_wp2_with (first
    | (go_at_call 19; refine i1.mono ?_; rintro e w10 ⟨rfl, rfl⟩)
    | (go_at_call 18; refine i2.mono ?_; rintro e w11 ⟨rfl, hw11⟩))
  go_ret
  exact ⟨rfl, B9.out.trans (hw11.mono B9.out.size)⟩
end Go.Proofs.YtmldibbbfmnckaaDoor

namespace Go.Proofs.YtmldibbbfmnckaaDoor
open Go.RowKit
theorem Tb.next {w w' : World} (h : Tb w) (hb : Below w.heap.size w w') : Tb w' := h.below hb h.lt
/-- three edges that share nothing, from block B on -/
structure G3 (w : World) (B qe qg qc : Nat) (Le Lg Lc : List (List UInt8)) (Fe Fg Fc : Nat → Prop) : Prop where
  e : EdL w qe Le Fe
  g : EdL w qg Lg Fg
  c : EdL w qc Lc Fc
  eg : ∀ k, Fe k → ¬ Fg k
  ec : ∀ k, Fe k → ¬ Fc k
  gc : ∀ k, Fg k → ¬ Fc k
  B1 : ∀ k, Fe k → B ≤ k
  B2 : ∀ k, Fg k → B ≤ k
  B3 : ∀ k, Fc k → B ≤ k
  B0 : B ≤ w.heap.size
theorem G3.below {w w' : World} {B qe qg qc : Nat} {Le Lg Lc : List (List UInt8)} {Fe Fg Fc : Nat → Prop} (h : G3 w B qe qg qc Le Lg Lc Fe Fg Fc) (hb : Below w.heap.size w w') : G3 w' B qe qg qc Le Lg Lc Fe Fg Fc :=
  ⟨Ed.below h.e hb, Ed.below h.g hb, Ed.below h.c hb, h.eg, h.ec, h.gc, h.B1, h.B2, h.B3, Nat.le_trans h.B0 hb.size⟩
theorem G3.setE {w w' : World} {B qe qg qc : Nat} {Le Lg Lc Le' : List (List UInt8)} {Fe Fg Fc Fe' : Nat → Prop} (h : G3 w B qe qg qc Le Lg Lc Fe Fg Fc) (hm : Mov Fe w w' Fe') (he : EdL w' qe Le' Fe') : G3 w' B qe qg qc Le' Lg Lc Fe' Fg Fc ∧ Below B w w' := by
  obtain ⟨g1, g2⟩ := Ed.mov h.g hm fun k hk e => h.eg k e hk
  obtain ⟨c1, c2⟩ := Ed.mov h.c hm fun k hk e => h.ec k e hk
  obtain ⟨b1, b2⟩ := hm.below h.B0 h.B1
  exact ⟨⟨he, g1, c1, fun k hk e => g2 k e hk, fun k hk e => c2 k e hk, h.gc, b2, h.B2, h.B3, Nat.le_trans h.B0 b1.size⟩, b1⟩
theorem G3.setG {w w' : World} {B qe qg qc : Nat} {Le Lg Lc Lg' : List (List UInt8)} {Fe Fg Fc Fg' : Nat → Prop} (h : G3 w B qe qg qc Le Lg Lc Fe Fg Fc) (hm : Mov Fg w w' Fg') (he : EdL w' qg Lg' Fg') : G3 w' B qe qg qc Le Lg' Lc Fe Fg' Fc ∧ Below B w w' := by
  obtain ⟨e1, e2⟩ := Ed.mov h.e hm h.eg
  obtain ⟨c1, c2⟩ := Ed.mov h.c hm fun k hk e => h.gc k e hk
  obtain ⟨b1, b2⟩ := hm.below h.B0 h.B2
  exact ⟨⟨e1, he, c1, e2, h.ec, fun k hk e => c2 k e hk, h.B1, b2, h.B3, Nat.le_trans h.B0 b1.size⟩, b1⟩
theorem G3.setC {w w' : World} {B qe qg qc : Nat} {Le Lg Lc Lc' : List (List UInt8)} {Fe Fg Fc Fc' : Nat → Prop} (h : G3 w B qe qg qc Le Lg Lc Fe Fg Fc) (hm : Mov Fc w w' Fc') (he : EdL w' qc Lc' Fc') : G3 w' B qe qg qc Le Lg Lc' Fe Fg Fc' ∧ Below B w w' := by
  obtain ⟨e1, e2⟩ := Ed.mov h.e hm h.ec
  obtain ⟨g1, g2⟩ := Ed.mov h.g hm h.gc
  obtain ⟨b1, b2⟩ := hm.below h.B0 h.B3
  exact ⟨⟨e1, g1, he, h.eg, e2, g2, h.B1, h.B2, b2, Nat.le_trans h.B0 b1.size⟩, b1⟩
theorem fLoadL {L : List (List UInt8)} (hs : Tree.Hs L) (hL : L.length ≤ 1099511627776) (x : Addr) (cap : Nat) (w : World) (hA : At w (some x) (Cut.cmp L 0)) (Z : Tb w) :
    Calls Tryd.prog 72 #[.int .i64 ((L.length : Nat) : Int), .slice (some x) (Cut.cmp L 0).length cap] w fun r w' => ∃ q, r = .returned (.tuple #[.pointer (some ⟨q, 0, none⟩), .int .i64 0]) ∧ EdL w' q L (fun k => w.heap.size ≤ k ∧ k < w'.heap.size) ∧ Below w.heap.size w w' := by
  have hl : (Cut.cmp L 0).length = (Cut.cut 0 L.length).length := by rw [Cut.cmp_length, Nat.zero_add]
  have h81 := Cut.cut_len (a := 0) (b := L.length) hL (Nat.zero_le _)
  refine (fLoad_any (L.length : Int) (Cut.cmp L 0) (some x) cap w (by omega) hA Z).mono ?_
  rintro r w' ⟨hb, h⟩
  rw [if_pos (by unfold ldE; rw [if_pos (by omega), Int.toNat_natCast, if_pos hl, if_pos (hsB_of (Cut.cmp_hs hs))]), Int.toNat_natCast] at h
  obtain ⟨q, h1, h2⟩ := h
  exact ⟨q, h1, h2, hb⟩
theorem fCloneL {w : World} {q : Nat} {L : List (List UInt8)} {F : Nat → Prop} (h : EdL w q L F) : Calls Tryd.prog 53 #[.pointer (some ⟨q, 0, none⟩)] w fun r w' => ∃ q', r = .returned (.pointer (some ⟨q', 0, none⟩)) ∧ EdL w' q' L (fun k => w.heap.size ≤ k ∧ k < w'.heap.size) ∧ Below w.heap.size w w' := fClone_any h
theorem Tabs.next' {w w' : World} (h : Tabs w) (hb : Below w.heap.size w w') : Tabs w' := h.below hb h.lt
end Go.Proofs.YtmldibbbfmnckaaDoor

namespace Go.Proofs.YtmldibbbfmnckaaDoor
open Go.RowKit
theorem Row.fst {w : World} {g : Nat} {L M : List (List UInt8)} (h : Row w g (L ++ M)) : At w (some ⟨g, 0, none⟩) L := by
  have := h.at.take L.length
  rwa [List.take_left] at this
set_option maxRecDepth 100000 in
set_option maxHeartbeats 2000000 in
theorem own5_any (b e : Int) (H : List (List UInt8)) (a : Option Addr) (k : Nat) (w : World) (hl : H.length ≤ 8796093021952) (hA : At w a H) :
    Calls Tryd.prog 25 #[rng b e (.slice a H.length k)] w fun r w' => ∃ g, r = .returned (.tuple #[rng b e (.slice (some ⟨g, 0, none⟩) H.length (H.length + 8)), .slice (some ⟨g, 0, none⟩) (H.length + 8) (H.length + 8)]) ∧ w.heap.size ≤ g ∧ Row w' g (H ++ behind 8) ∧ Below w.heap.size w w' := by
  obtain ⟨w0, hw0⟩ : ∃ w0, (w.alloc (.cells #[Value.int .i64 b, .int .i64 e, .slice a H.length k] 28)).alloc (.cells #[Value.int .i64 0, .int .i64 0, .slice none 0 0] 28) = w0 := ⟨_, rfl⟩
  have z1 := size_alloc w (.cells #[Value.int .i64 b, .int .i64 e, .slice a H.length k] 28)
  have r1 := heap_alloc_new w (.cells #[Value.int .i64 b, .int .i64 e, .slice a H.length k] 28)
  have bb := (Below.refl (w.heap.size + 1) (w.alloc (.cells #[Value.int .i64 b, .int .i64 e, .slice a H.length k] 28))).alloc (by omega) (.cells #[Value.int .i64 0, .int .i64 0, .slice none 0 0] 28)
  have z2 := size_alloc (w.alloc (.cells #[Value.int .i64 b, .int .i64 e, .slice a H.length k] 28)) (.cells #[Value.int .i64 0, .int .i64 0, .slice none 0 0] 28)
  have r2 := heap_alloc_at (w.alloc (.cells #[Value.int .i64 b, .int .i64 e, .slice a H.length k] 28)) (.cells #[Value.int .i64 0, .int .i64 0, .slice none 0 0] 28) (w.heap.size + 1) z1
  have b1 := (Below.refl w.heap.size w).alloc (Nat.le_refl _) (.cells #[Value.int .i64 b, .int .i64 e, .slice a H.length k] 28)
  have b2 := b1.trans (bb.mono (show w.heap.size ≤ w.heap.size + 1 by omega))
  have r1' := (bb.block w.heap.size (by omega)).trans r1
  rw [hw0] at r1' r2 b2 z2
  rw [z1] at z2
  have Z2 := hid z2
  have RA : Hid (Rg w0 w.heap.size b e (.slice a H.length k)) := r1'
  have RB : Hid (Rg w0 (w.heap.size + 1) 0 0 (.slice none 0 0)) := r2
  have HB := hid b2
  have i1 := lent_any H a k w0 hl (hA.below b2 (Nat.le_refl _))
  have HW0 := hid hw0
  clear z1 z2 r1 r2 b1 b2 bb r1' hA hw0
  obtain ⟨n, hn⟩ : ∃ n, Hid (H.length = n) := ⟨_, rfl⟩
  rw [hn.out] at i1 RA HW0 hl ⊢
  go_enter Tryd.func25, Tryd.ntmps25
  go_wp2_with (go_at_call 24; fail)
  rw [HW0.out]
  refine i1.mono ?_
  rintro r w1 ⟨rfl, R1, hw1⟩
  have RA1 := RA.out.below hw1
  have RB1 := RB.out.below hw1
  have p2 := RA1.c2
  have f2 : w1.frozen? ⟨w.heap.size, 2, none⟩ = false := frozen_of_row _ _ _ _ _ RA1
  have m1 : (n : Int) ≤ (n : Int) + 8 := by omega
  have RA2 : Rg (w1.setCell ⟨w.heap.size, 2, none⟩ (.slice (some ⟨w0.heap.size, 0, none⟩) n (n + 8))) w.heap.size b e (.slice (some ⟨w0.heap.size, 0, none⟩) n (n + 8)) := heap_setCell_same w1 w.heap.size 2 _ _ _ RA1
  have t0 := RA2.c0
  have t1 := RA2.c1
  have t2 := RA2.c2
  have RB2 : Rg (w1.setCell ⟨w.heap.size, 2, none⟩ (.slice (some ⟨w0.heap.size, 0, none⟩) n (n + 8))) (w.heap.size + 1) 0 0 (.slice none 0 0) := (Below.heap_setCell w1 _ _ (w.heap.size + 1) (by show w.heap.size + 1 ≠ w.heap.size; omega)).trans RB1
  have HRB2 := hid RB2
  have HR1 := hid R1
  have HB1 := hid (HB.out.trans (hw1.mono HB.out.size))
  clear RB2 RB1 R1 hw1 RA1 RA2
  go_wp2_with ((with_reducible show wpList _ _ _ (Oper.mk _ (Op.store 28 _ _) _ _ _ _ :: _) _ _); go_must (refine wpList_store_row rfl 28 _ _ rfl (w.heap.size + 1) _ rfl rfl 28 _ HRB2.out.row (sizeRg' _ _ _) rfl (oneRg _ _ _ _ _) ?_))
  refine bodyPost_ret (results_row_tmp rfl _ _ (w.heap.size + 1) 28 _ (0, 0) _ rfl (setRow_heap _ _ _ _ _ _ HRB2.out.row) Tryd.underlying28 rfl sizeRg) rfl ?_
  have z2 := Z2.out
  refine ⟨w0.heap.size, rfl, by omega, ?_, Below.setRow (HB1.out.setCell (Nat.le_refl _) (p := ⟨w.heap.size, 2, none⟩) _) (by omega) _⟩
  refine (setRow_other _ _ _ _ (by omega)).trans ?_
  exact (Below.heap_setCell w1 _ _ w0.heap.size (by show w0.heap.size ≠ w.heap.size; omega)).trans HR1.out
end Go.Proofs.YtmldibbbfmnckaaDoor

namespace Go.Proofs.YtmldibbbfmnckaaDoor
open Go.RowKit
/-- what again works on: three rows, two ranges -/
structure Ag (w0 w' : World) (B gl gx gy : Nat) (xb xe yb ye : Int) (nx ny cx cy : Nat) (L X Y tl tx ty : List (List UInt8)) : Prop where
  rl : Row w' gl (L ++ tl)
  rx : Row w' gx (X ++ tx)
  ry : Row w' gy (Y ++ ty)
  bx : Rg w' B xb xe (.slice (some ⟨gx, 0, none⟩) nx cx)
  yy : Rg w' (B + 1) yb ye (.slice (some ⟨gy, 0, none⟩) ny cy)
  keep : Keep (fun k => k = gl ∨ k = gx ∨ k = gy ∨ B ≤ k) w0 w'
theorem Ag.world {w0 w1 w2 : World} {B gl gx gy : Nat} {xb xe yb ye : Int} {nx ny cx cy : Nat} {L X Y tl tx ty : List (List UInt8)} (h : Ag w0 w1 B gl gx gy xb xe yb ye nx ny cx cy L X Y tl tx ty) (hb : Below w1.heap.size w1 w2) : Ag w0 w2 B gl gx gy xb xe yb ye nx ny cx cy L X Y tl tx ty :=
  ⟨h.rl.below hb h.rl.lt, h.rx.below hb h.rx.lt, h.ry.below hb h.ry.lt, h.bx.below hb, h.yy.below hb, h.keep.trans (Keep.ofBelow (S := fun k => k = gl ∨ k = gx ∨ k = gy ∨ B ≤ k) hb) fun _ _ e => e⟩
theorem Row.but5 {w w' : World} {g k : Nat} {L : List (List UInt8)} (h : Row w g L) (hb : But k w w') (hk : g ≠ k) : Row w' g L := (hb.block g h.lt hk).trans h
theorem Rg.but5 {w w' : World} {g k : Nat} {b e : Int} {v : Value} (h : Rg w g b e v) (hb : But k w w') (hk : g ≠ k) : Rg w' g b e v := (hb.block g (lt_of_heap h) hk).trans h
theorem But.keep5 {w w' : World} {k : Nat} {S : Nat → Prop} (hb : But k w w') (hS : S k) : Keep S w w' := ⟨hb.os, hb.tape, hb.output, hb.size, fun j hj hn => hb.block j hj fun e => hn (e ▸ hS)⟩
/-- and copies of them -/
structure Ab (w0 w' : World) (B gl gx gy : Nat) (xb xe yb ye : Int) (nx ny cx cy : Nat) (L X Y tl tx ty : List (List UInt8)) (ac aa ab : Option Addr) (ga gb kc ka kb n : Nat) : Prop where
  ag : Ag w0 w' B gl gx gy xb xe yb ye nx ny cx cy L X Y tl tx ty
  fc : At w' ac L
  fcl : n ≤ kc ∧ kc ≤ 9223372036854775807
  fcb : ∀ x, ac = some x → B ≤ x.block
  fva : Rg w' ga xb xe (.slice aa nx ka)
  faa : At w' aa X
  fba : ∀ x, aa = some x → B ≤ x.block
  fga : B ≤ ga
  fvb : Rg w' gb yb ye (.slice ab ny kb)
  fab : At w' ab Y
  fbb : ∀ x, ab = some x → B ≤ x.block
  fgb : B ≤ gb
theorem Ab.world {w0 w1 w2 : World} {B gl gx gy : Nat} {xb xe yb ye : Int} {nx ny cx cy : Nat} {L X Y tl tx ty : List (List UInt8)} {ac aa ab : Option Addr} {ga gb kc ka kb n : Nat} (h : Ab w0 w1 B gl gx gy xb xe yb ye nx ny cx cy L X Y tl tx ty ac aa ab ga gb kc ka kb n) (hb : Below w1.heap.size w1 w2) : Ab w0 w2 B gl gx gy xb xe yb ye nx ny cx cy L X Y tl tx ty ac aa ab ga gb kc ka kb n :=
  ⟨h.ag.world hb, h.fc.below hb (Nat.le_refl _), h.fcl, h.fcb, h.fva.below hb, h.faa.below hb (Nat.le_refl _), h.fba, h.fga, h.fvb.below hb, h.fab.below hb (Nat.le_refl _), h.fbb, h.fgb⟩
theorem Own.at_base {w : World} {base : Nat} {v : Value} {L : List (List UInt8)} (h : Own w base v (svs L)) : ∃ a cap, v = .slice a L.length cap ∧ At w a L ∧ L.length ≤ cap ∧ cap ≤ 9223372036854775807 ∧ ∀ x, a = some x → base ≤ x.block := by
  obtain ⟨a, cap, rfl, h1, h2, h3⟩ := h.at
  exact ⟨a, cap, rfl, h1, h2, h3, fun x hx => (own_block h hx).2⟩
/-- the blocks of again's arguments -/
structure Ap (w : World) (B gl gx gy : Nat) : Prop where
  lx : gl ≠ gx
  ly : gl ≠ gy
  xy : gx ≠ gy
  l : gl < B
  x : gx < B
  y : gy < B
  tl : 4 ≤ gl
  tx : 4 ≤ gx
  ty : 4 ≤ gy
  z : Tb w
theorem Ag.tb {w0 w1 : World} {B gl gx gy : Nat} {xb xe yb ye : Int} {nx ny cx cy : Nat} {L X Y tl tx ty : List (List UInt8)} (h : Ag w0 w1 B gl gx gy xb xe yb ye nx ny cx cy L X Y tl tx ty) (p : Ap w0 B gl gx gy) : Tb w1 := by
  have h1 := p.tl
  have h2 := p.tx
  have h3 := p.ty
  have h4 := p.l
  exact p.z.below (B := 4) (h.keep.toBelow p.z.lt fun k hk => by rcases hk with e | e | e | e <;> omega) (Nat.le_refl _)
end Go.Proofs.YtmldibbbfmnckaaDoor

namespace Go.Proofs.YtmldibbbfmnckaaDoor
open Go.RowKit
/-- the store of a struct into a row, as one step of a region that draws -/
theorem step_store_row {P : Program} {ops : Array Oper} {o : Oper} {a : Act} {w : World} {K : Act → World → Prop} {Q : Exit → Act → World → Prop} {E : Prop}
    (hgd : o.guard = none) (ty : TypeId) (x y : Operand) (ho : o.op = .store ty x y) (g : Nat) (cells : Array Value) (hx : a.eval x = .pointer (some ⟨g, 0, none⟩)) (hy : a.eval y = .agg cells)
    (t : TypeId) (old : Array Value) (hg : w.heap[g]? = some (.cells old t (0, 0))) (hi : (P.info? ty).map (·.size) = some cells.size) (hold : old.size = cells.size) (h1 : cells.all (·.oneCell') = true)
    (h : K (a.put o.dst undef) (w.setRow g cells)) : if Region.wanted o (yielded ops a.tmps) = true then Oper.wp P o a w K Q else E := by
  have hw : Region.wanted o (yielded ops a.tmps) = true := by simp [Region.wanted, hgd]
  rw [if_pos hw]
  exact wp_store_row ty x y ho g cells hx hy t old hg hi hold h1 h
theorem At.setRow5 {w : World} {a : Option Addr} {l : List (List UInt8)} (h : At w a l) (g : Nat) (cs : Array Value) (hne : ∀ x, a = some x → x.block ≠ g) : At (w.setRow g cs) a l := fun j p hp => by
  obtain ⟨x, rfl, hx, hc⟩ := h j p hp
  refine ⟨x, rfl, by rw [setRow_size]; exact hx, ?_⟩
  rw [← hc]
  exact World.cell?_of_block (w := w) (by rw [addr_block]; exact setRow_other w g _ cs (hne x rfl))
/-- a range with a copy of a list lies there -/
def CpR (w w' : World) (g : Nat) (b e : Int) (a : Option Addr) (n k : Nat) (L : List (List UInt8)) : Prop :=
  w.heap.size ≤ g ∧ Rg w' g b e (.slice a n k) ∧ Below w.heap.size w w' ∧ At w' a L ∧ ∀ x, a = some x → w.heap.size ≤ x.block
/-- T{.., append(nil, l...)}: the variable made behind the append, or ahead of it -/
theorem copy_both (w : World) (g c n : Nat) (L : List (List UInt8)) (b e : Int) (hA : At w (some ⟨g, 0, none⟩) L) (hn : L.length = n) (hL : n ≤ 8796093021952) :
    ∃ a2 k2 w2 a3 k3 w3, (Builtin.append_ #[24, 24] 24 #[.slice none 0 0, .slice (some ⟨g, 0, none⟩) n c]).run Tryd.prog w.drew = .ok (.slice a2 n k2) w2 ∧
      (Builtin.append_ #[24, 24] 24 #[.slice none 0 0, .slice (some ⟨g, 0, none⟩) n c]).run Tryd.prog (w.alloc (.cells #[Value.int .i64 0, .int .i64 0, .slice none 0 0] 28)).drew = .ok (.slice a3 n k3) w3 ∧
      Below w.heap.size w w2 ∧ Below w.heap.size w w3 ∧ Rg w3 w.heap.size 0 0 (.slice none 0 0) ∧
      CpR w (w2.alloc (.cells #[Value.int .i64 b, .int .i64 e, .slice a2 n k2] 28)) w2.heap.size b e a2 n k2 L ∧ CpR w (w3.setRow w.heap.size #[Value.int .i64 b, .int .i64 e, .slice a3 n k3]) w.heap.size b e a3 n k3 L := by
  subst hn
  obtain ⟨v2, w2, hap2, O2, b2⟩ := append_at w.drew (some ⟨g, 0, none⟩) c L (hA.heap rfl) (by omega)
  obtain ⟨a2, k2, rfl, A2, _, _, ba2⟩ := O2.at_base
  have az := (Below.refl w.heap.size w).alloc (Nat.le_refl _) (.cells #[Value.int .i64 0, .int .i64 0, .slice none 0 0] 28)
  have rz := Rg.new w 0 0 (.slice none 0 0)
  have sz := size_alloc w (.cells #[Value.int .i64 0, .int .i64 0, .slice none 0 0] 28)
  obtain ⟨v3, w3, hap3, O3, b3⟩ := append_at (w.alloc (.cells #[Value.int .i64 0, .int .i64 0, .slice none 0 0] 28)).drew (some ⟨g, 0, none⟩) c L ((hA.below az (Nat.le_refl _)).heap rfl) (by omega)
  obtain ⟨a3, k3, rfl, A3, _, _, ba3⟩ := O3.at_base
  have b2' : Below w.heap.size w w2 := drewBelow5 b2
  have b3' := drewBelow5 b3
  have b3'' : Below w.heap.size w w3 := az.trans (b3'.mono az.size)
  have hal := (Below.refl w2.heap.size w2).alloc (Nat.le_refl _) (.cells #[Value.int .i64 b, .int .i64 e, .slice a2 L.length k2] 28)
  have rz3 := rz.below b3'
  have ba3' : ∀ x, a3 = some x → w.heap.size + 1 ≤ x.block := fun x hx => by
    have := ba3 x hx
    rw [← sz]; exact this
  refine ⟨a2, k2, w2, a3, k3, w3, hap2, hap3, b2', b3'', rz3, ⟨b2'.size, Rg.new w2 _ _ _, b2'.trans (hal.mono b2'.size), A2.below hal (Nat.le_refl _), ba2⟩, ⟨Nat.le_refl _, setRow_heap _ _ _ _ _ _ rz3, Below.setRow b3'' (Nat.le_refl _) _, ?_, fun x hx => by have := ba3' x hx; omega⟩⟩
  exact A3.setRow5 _ _ fun x hx => by have := ba3' x hx; omega
end Go.Proofs.YtmldibbbfmnckaaDoor

namespace Go.Proofs.YtmldibbbfmnckaaDoor
open Go.RowKit
/-- what again has left to turn -/
structure Au (w0 w' : World) (B gl gx gy : Nat) (xb xe yb ye : Int) (nx ny cx cy : Nat) (L X Y tl tx ty X0 Y0 : List (List UInt8)) (aa ab : Option Addr) (ga gb ka kb : Nat) : Prop where
  ag : Ag w0 w' B gl gx gy xb xe yb ye nx ny cx cy L X Y tl tx ty
  fva : Rg w' ga xb xe (.slice aa nx ka)
  faa : At w' aa X0
  fba : ∀ x, aa = some x → B ≤ x.block
  fga : B ≤ ga
  fvb : Rg w' gb yb ye (.slice ab ny kb)
  fab : At w' ab Y0
  fbb : ∀ x, ab = some x → B ≤ x.block
  fgb : B ≤ gb
theorem Ab.au {w0 w1 : World} {B gl gx gy : Nat} {xb xe yb ye : Int} {nx ny cx cy : Nat} {L X Y tl tx ty : List (List UInt8)} {ac aa ab : Option Addr} {ga gb kc ka kb n : Nat} (h : Ab w0 w1 B gl gx gy xb xe yb ye nx ny cx cy L X Y tl tx ty ac aa ab ga gb kc ka kb n) : Au w0 w1 B gl gx gy xb xe yb ye nx ny cx cy L X Y tl tx ty X Y aa ab ga gb ka kb :=
  ⟨h.ag, h.fva, h.faa, h.fba, h.fga, h.fvb, h.fab, h.fbb, h.fgb⟩
theorem Au.turn {w0 w1 w2 : World} {B gl gx gy : Nat} {xb xe yb ye : Int} {nx ny cx cy : Nat} {L X Y tl tx ty X0 Y0 L' X' Y' : List (List UInt8)} {aa ab : Option Addr} {ga gb ka kb : Nat} (h : Au w0 w1 B gl gx gy xb xe yb ye nx ny cx cy L X Y tl tx ty X0 Y0 aa ab ga gb ka kb) {k : Nat} (hk : k = gl ∨ k = gx ∨ k = gy) (hB : k < B) (b : But k w1 w2) (r1 : Row w2 gl (L' ++ tl)) (r2 : Row w2 gx (X' ++ tx)) (r3 : Row w2 gy (Y' ++ ty)) :
    Au w0 w2 B gl gx gy xb xe yb ye nx ny cx cy L' X' Y' tl tx ty X0 Y0 aa ab ga gb ka kb :=
  ⟨⟨r1, r2, r3, h.ag.bx.but5 b (by omega), h.ag.yy.but5 b (by omega), h.ag.keep.trans (b.keep5 (S := fun j => j = gl ∨ j = gx ∨ j = gy ∨ B ≤ j) (by rcases hk with e | e | e <;> simp [e])) fun _ _ e => e⟩,
    h.fva.but5 b (by have := h.fga; omega), h.faa.but b (fun x hx => by have := h.fba x hx; omega), h.fba, h.fga, h.fvb.but5 b (by have := h.fgb; omega), h.fab.but b (fun x hx => by have := h.fbb x hx; omega), h.fbb, h.fgb⟩
theorem rev_len {L : List (List UInt8)} {n : Nat} (h : L.length = n) : L.reverse.length = n := by rw [List.length_reverse]; exact h
theorem selC_len (fr : Int) (L : List (List UInt8)) : (selL (cmpE fr L) (Cut.cmp L fr.toNat)).length ≤ 81 := by
  unfold selL
  split
  · rename_i h
    unfold cmpE at h
    split at h
    · rename_i h1
      split at h
      · rw [Cut.cmp_length]; exact Cut.cut_len (by omega) (by omega)
      · cases h
    · cases h
  · simp
theorem selJ_len (b1 e1 b2 e2 : Int) (H1 H2 : List (List UInt8)) : (selL (joinE b1 e1 b2 e2 H1 H2) (Cut.joinH b1.toNat e1.toNat e2.toNat H1 H2)).length ≤ 81 := by
  unfold selL
  split
  · rename_i h
    unfold joinE at h
    split at h
    · rename_i h1
      split at h
      · split at h
        · rename_i h3
          obtain ⟨b', e', rfl, rfl, h4, h5, h6⟩ := rgt_true h1.1
          obtain ⟨c', d', rfl, rfl, h7, h8, h9⟩ := rgt_true h1.2
          obtain rfl : e' = c' := by omega
          simp only [Int.toNat_natCast]
          rw [Cut.joinH_length h8 h4 h7 h6 h9]
          exact Cut.cut_len h8 (by omega)
        · cases h
      · cases h
    · cases h
  · simp
end Go.Proofs.YtmldibbbfmnckaaDoor
