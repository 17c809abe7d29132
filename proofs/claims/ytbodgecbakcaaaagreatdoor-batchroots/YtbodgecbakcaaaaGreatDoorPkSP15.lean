import Derived.Test.YtbodgecbakcaaaaGreatDoorPkSP10
namespace Go.Proofs.YtbodgecbakcaaaaGreatDoor
open Go.RowKit Go.Shelf
attribute [local go_sem] Oper.semAt_some
set_option maxRecDepth 100000 in
set_option maxHeartbeats 8000000 in
theorem bare_iter (n p q f : Nat) (lb : Array Value) (cnt : Nat → Nat → Nat) (C0 : Nat → Prop) (hn : 1 ≤ n) (hn2 : n ≤ 1099511627776) (w : World) (hp : w.cell? ⟨p, 0, none⟩ = some (.int .i64 (n : Int))) (hq : w.cell? ⟨q, 0, none⟩ = some (.func (.func f) #[] lb))
    (hcn : Cnts f lb n cnt C0 w) (hcl : ∀ b e, cnt b e ≤ 1099511627776) (hC0 : ∀ k, C0 k → k < w.heap.size) :
    IterC Tryz.prog 99 #[.pointer (some ⟨p, 0, none⟩), .pointer (some ⟨q, 0, none⟩)] enS (Tree.barF n 0 n cnt) (fun k => C0 k ∨ k = p ∨ k = q) (fun _ => False) w := by
  intro N l J Jx F W fJ fX hW hFC hY h0
  have hpl : p < w.heap.size := World.block_lt_of_cell? w ⟨p, 0, none⟩ hp
  have hql : q < w.heap.size := World.block_lt_of_cell? w ⟨q, 0, none⟩ hq
  have hp1 : W.cell? ⟨p, 0, none⟩ = some (.int .i64 (n : Int)) := (hW.cell (p := ⟨p, 0, none⟩) hpl).trans hp
  have hs := hW.size
  refine callsIn_of_wp Tryz.func99 rfl trivial ?_ rfl
  simp only [Tryz.ntmps99, List.size_toArray, List.length_cons, List.length_nil, Nat.reduceAdd, Nat.reduceSub, Array.replicate_succ, Array.replicate_zero, List.push_toArray, List.append_toArray, List.nil_append, List.cons_append]
  gi_wp2
  have hFl := fJ.lt _ _ _ h0
  have hb0 := (Below.refl _ W).alloc (Nat.le_refl _) (.cells #[.int .i64 0, .int .i64 (n : Int)] 62)
  have J0 := hid (fJ.keep _ _ _ _ (fun _ => False) h0 (Keep.ofBelow hb0) (fun _ _ e => e))
  have St0 : Hid (Stk W (W.alloc (.cells #[.int .i64 0, .int .i64 (n : Int)] 62)) F F (.slice (some ⟨W.heap.size, 0, none⟩) 1 1) [(0, n)] n) := by
    have hnew := heap_alloc_new W (.cells #[.int .i64 0, .int .i64 (n : Int)] 62)
    refine ⟨.inr ⟨W.heap.size, 1, rfl, Nat.le_refl _, by rw [maxLen]; omega, rfl, fun j u hj => ?_, there_of_row hnew 0 _ (by simp), by rw [size_alloc]; omega⟩, fun k hk => by cases hk; exact Nat.le_refl _, fun k hk e => by have hk : some W.heap.size = some k := hk; injection hk with hk; have := hFl _ e; omega, Keep.ofBelow hb0, fun k hk => .inl hk, fun s hs => ?_, ?_⟩
    · rw [cell_of_row _ _ _ _ _ _ hnew, Nat.zero_add]; simpa [prs] using hj
    · obtain rfl : s = (0, n) := by simpa using hs
      exact ⟨by show 0 < n; omega, Nat.le_refl _⟩
    · simp [stL]
  clear hb0
  gi_loopw [4] (fun v wr => ∃ (pre st : List (Nat × Nat)) (F' : Nat → Prop), Hid (Tree.barF n 0 n cnt = pre ++ stO n cnt st) ∧ Hid (Stk W wr F F' v st n) ∧ Hid (J F' pre wr)) (fun v wr => stM v wr)
  case atStart =>
    refine ⟨[], [(0, n)], F, ?_, St0, J0⟩
    unfold Hid
    rw [stO, stO, List.nil_append, List.nil_append]; rfl
  case round =>
    clear St0 J0
    obtain ⟨pre, st, F', hx, hS, hJ⟩ := hrel
    rcases List.eq_nil_or_concat st with rfl | ⟨st, ⟨b, e⟩, rfl⟩
    · rcases hS.out.own with ⟨rfl, _⟩ | ⟨g, c, rfl, _⟩
      · gi_wp2
        go_end0
        refine ⟨⟨_, rfl⟩, F', hS.out.keep.mono fun k _ h => .inl h, hS.out.new, .inl ?_⟩
        rw [hx.out, stO, List.append_nil]
        exact hJ.out
      · simp only [List.length_nil] at *
        gi_wp2
        go_end0
        refine ⟨⟨_, rfl⟩, F', hS.out.keep.mono fun k _ h => .inl h, hS.out.new, .inl ?_⟩
        rw [hx.out, stO, List.append_nil]
        exact hJ.out
    · rw [List.concat_eq_append] at hx hS
      obtain ⟨g, c, rfl, hc1, hc2, t0, t1⟩ := hS.out.top
      have hbe := hS.out.lt (b, e) (List.mem_append.2 (.inr (by simp)))
      have hbe1 : b < e := hbe.1
      have hen : e ≤ n := hbe.2
      have hS1 := hid hS.out.pop
      have hsum := hS.out.sum
      rw [stL_snoc] at hsum
      have hstl : st.length ≤ n := by
        have := stL_len (l := st) fun s hs => (hS1.out.lt s hs).1
        omega
      have hx1 : Hid (Tree.barF n 0 n cnt = pre ++ (Tree.barF n b (e - b) cnt ++ stO n cnt st)) := by unfold Hid; rw [hx.out, stO_snoc]
      have hmea : Hid (stM (.slice (some ⟨g, 0, none⟩) (st.length + 1) c) wr = stW st + (2 * (e - b) - 1)) := by unfold Hid; rw [stM_eq hS.out.own, stW_snoc]
      have hq0 : wr.cell? ⟨q, 0, none⟩ = some (.func (.func f) #[] lb) := by
        have hb := hS.out.keep.block q (by omega) (fun h => hFC q h (.inr (.inr rfl)))
        exact ((World.cell?_of_block (a := ⟨q, 0, none⟩) hb).trans (hW.cell (p := ⟨q, 0, none⟩) hql)).trans hq
      have hCk : Hid (∀ k, C0 k → wr.heap[k]? = w.heap[k]?) := fun k hk => (hS.out.keep.block k (by have := hC0 k hk; omega) (fun h => hFC k h (.inl hk))).trans (hW.block k (hC0 k hk))
      have hwsz : Hid (w.heap.size ≤ wr.heap.size) := by unfold Hid; have := hS.out.keep.size; omega
      clear hS hx
      obtain ⟨k, hk⟩ : ∃ k, Hid (st.length = k) := ⟨_, rfl⟩
      rw [hk.out] at hS1 hmea hc1 t0 t1 hstl ⊢
      have b0 : (0 : Int) < ((k + 1 : Nat) : Int) := by omega
      have u0 : IntKind.i64.wrap (((k + 1 : Nat) : Int) - 1) = (k : Int) := by rw [IntKind.wrap_i64]; omega
      have u1 : (k : Int) < ((k + 1 : Nat) : Int) := by omega
      have u2 : (0 : Int) ≤ (k : Int) := by omega
      have u3 : (k : Int) ≤ (c : Int) := by omega
      have heg := hcn.1
      have hbA := (Below.refl _ wr).alloc (Nat.le_refl _) (.cells #[.int .i64 (b : Int), .int .i64 (e : Int)] 62)
      have hqA : (wr.alloc (.cells #[.int .i64 (b : Int), .int .i64 (e : Int)] 62)).cell? ⟨q, 0, none⟩ = some (.func (.func f) #[] lb) := (hbA.cell (p := ⟨q, 0, none⟩) (World.block_lt_of_cell? wr ⟨q, 0, none⟩ hq0)).trans hq0
      have sA := hid (SpI.new wr b e)
      have cA0 := sA.out.c0
      have cA1 := sA.out.c1
      have hSA := hid (hS1.out.below hbA)
      have JA := hid (fJ.keep _ _ _ _ (fun _ => False) hJ.out (Keep.ofBelow hbA) (fun _ _ e => e))
      have i4 := hcn.2 b e (wr.alloc (.cells #[.int .i64 (b : Int), .int .i64 (e : Int)] 62)) (by omega) hen (fun k hk => (hbA.block k (by have := hC0 k hk; have := hwsz.out; omega)).trans (hCk.out k hk)) (Nat.le_trans hwsz.out hbA.size)
      have hgs : Hid (¬ F' wr.heap.size) := fun h => by have := fJ.lt _ _ _ hJ.out _ h; omega
      have hgv : Hid (∀ k', (Value.slice (some ⟨g, 0, none⟩) k c).ownBlock = some k' → k' < wr.heap.size) := fun k' h => hS1.out.own.lt k' h
      clear hS1 hJ hq0
      obtain ⟨gs, hgse⟩ : ∃ gs, Hid (wr.heap.size = gs) := ⟨_, rfl⟩
      gi_wp2
      refine ⟨trivial, fun h => (by cases h), (callsIn_wide.2 i4).mono ?_⟩
      clear i4 hqA cA0 cA1
      rintro r W4 ⟨rfl, hb4⟩
      have hS4 := hid (hSA.out.below hb4)
      have J4 := hid (fJ.keep _ _ _ _ (fun _ => False) JA.out (Keep.ofBelow hb4) (fun _ _ e => e))
      have s4 := sA.out.below hb4
      have c40 := s4.c0
      have c41 := s4.c1
      have s4 := hid s4
      rw [hgse.out] at *
      clear hSA JA sA hbA hb4 t0 t1 hCk hwsz
      have hcn1 := hcl b e
      obtain ⟨m, hmc⟩ : ∃ m, Hid (cnt b e = m) := ⟨_, rfl⟩
      rw [hmc.out] at hcn1 ⊢
      by_cases hm0 : m = 0
      · subst hm0
        have hbr : Hid (Tree.barF n b (e - b) cnt = [(b, e)]) := by
          obtain ⟨n', rfl⟩ : ∃ n', n = n' + 1 := ⟨n - 1, by omega⟩
          unfold Hid
          rw [Tree.barF_no (by rw [show b + (e - b) = e by omega]; exact hmc.out), show b + (e - b) = e by omega]
        obtain ⟨fn, tmps, assign, body, hy, hR⟩ := hY F' pre (b, e) (stO n cnt st) W4 J4.out (by rw [hx1.out, hbr.out]; rfl)
        gi_wp2
        refine ⟨fun h => (by cases h), hR.mono ?_⟩
        clear hR hy c40 c41
        rintro e' W5 ⟨F3, hm, hh⟩
        have hS5 := hid (hS4.out.round hm)
        rcases hh with ⟨rfl, hJ5⟩ | ⟨rfl, hX5⟩
        · gi_wp2
          refine ⟨trivial, ?_⟩
          gi_wp2
          go_roundw
          case rel =>
            refine ⟨pre ++ [(b, e)], st, F3, ?_, hS5, hJ5⟩
            unfold Hid
            rw [hx1.out, hbr.out, List.append_assoc]
          case measure =>
            rw [hmea.out, stM_eq hS5.out.own]
            omega
        · gi_wp2
          refine bodyPost_ret (results_none rfl _ _ _) rfl ?_
          refine ⟨⟨_, rfl⟩, F3, hS5.out.keep.mono fun k _ h => .inl h, hS5.out.new, .inr ⟨pre ++ [(b, e)], ⟨stO n cnt st, ?_⟩, hX5⟩⟩
          rw [hx1.out, hbr.out, List.append_assoc]
      · have hm1 : (0 : Int) < (m : Int) := by omega
        have hm2 : ((m : Int) == 0) = false := by simpa using hm0
        have i5 := slen_nat b e (by omega) (by omega) W4
        by_cases hmle : m < e - b
        · have hmle' : (m : Int) < ((e - b : Nat) : Int) := by omega
          obtain ⟨mid, hmid⟩ : ∃ mid, Hid (mid = b + Tree.sp (e - b)) := ⟨_, rfl⟩
          have i6 := fun w' => parts_at b e mid (by omega) (by omega) hmid w'
          have hms : Hid (b < mid ∧ mid < e) := by
            have s1 := Tree.sp_lt (n := e - b) (by omega)
            have s2 := Tree.sp_pos (n := e - b) (by omega)
            have := hmid.out
            unfold Hid; omega
          gi_wp2
          refine ⟨fun _ _ => trivial, ?_⟩
          gi_wp2
          refine ⟨trivial, fun h => (by cases h), (callsIn_wide.2 i5).mono ?_⟩
          clear i5 c40 c41
          rintro r W5 ⟨rfl, hb5⟩
          have s5 := s4.out.below hb5
          have c50 := s5.c0
          have c51 := s5.c1
          have hS5 := hid (hS4.out.below hb5)
          have J5 := hid (fJ.keep _ _ _ _ (fun _ => False) J4.out (Keep.ofBelow hb5) (fun _ _ e => e))
          clear hS4 J4 s4 hb5
          gi_wp2
          refine ⟨trivial, fun h => (by cases h), (callsIn_wide.2 (i6 _)).mono ?_⟩
          clear i6 c50 c51
          rintro r W6 ⟨rfl, hb6⟩
          have hb8 := ((Below.refl _ W6).alloc (Nat.le_refl _) (.cells #[.int .i64 (b : Int), .int .i64 (mid : Int)] 62)).alloc (by rw [size_alloc]; omega) (.cells #[.int .i64 (mid : Int), .int .i64 (e : Int)] 62)
          have L8 := (SpI.new W6 b mid).below ((Below.refl _ _).alloc (Nat.le_refl _) (.cells #[.int .i64 (mid : Int), .int .i64 (e : Int)] 62))
          have R8 := SpI.new (W6.alloc (.cells #[.int .i64 (b : Int), .int .i64 (mid : Int)] 62)) mid e
          rw [size_alloc] at R8
          have l0 := L8.c0
          have l1 := L8.c1
          have r0 := R8.c0
          have r1 := R8.c1
          have hS8 := hid ((hS5.out.below hb6).below hb8)
          have J8 := hid (fJ.keep _ _ _ _ (fun _ => False) J5.out (Keep.ofBelow (hb6.trans (hb8.mono hb6.size))) (fun _ _ e => e))
          obtain ⟨v', w9, hap, O9, G9⟩ := append_two _ _ st mid e b mid hS8.out.own (by have := hk.out; omega)
          have hP := hS8.out.push O9 G9 hms.out.1 hms.out.2 hen (by omega) (fJ.lt _ _ _ J8.out)
          have hS9 := hid hP.1
          have J9 := hid (fJ.keep _ _ _ _ _ J8.out hP.2 (fun k hk e => hS8.out.out k e hk))
          have hm9 := hid (stM_eq O9)
          obtain ⟨va', vn', vc', rfl⟩ := ownM_sl O9
          rw [size_alloc, size_alloc] at hap
          clear hS5 J5 L8 R8 hb8 hb6 hP O9 G9 hS8 J8
          have hbr : Hid (Tree.barF n b (e - b) cnt = Tree.barF n b (mid - b) cnt ++ Tree.barF n mid (e - mid) cnt) := by
            have s1 := Tree.sp_lt (n := e - b) (by omega)
            have s2 := Tree.sp_pos (n := e - b) (by omega)
            have hmd := hmid.out
            have e1 : b + (e - b) = e := by omega
            have e2 : mid - b = Tree.sp (e - b) := by omega
            have e3 : e - mid = e - b - Tree.sp (e - b) := by omega
            have hc0 : cnt b (b + (e - b)) = m := by rw [e1]; exact hmc.out
            obtain ⟨n', rfl⟩ : ∃ n', n = n' + 1 := ⟨n - 1, by omega⟩
            unfold Hid
            rw [Tree.barF_two (by rw [hc0]; exact hm0) (by rw [hc0]; omega), e2, e3, Tree.barF_fuel cnt n' (n' + 1) b (Tree.sp (e - b)) (by omega) (by omega) (by omega), Tree.barF_fuel cnt n' (n' + 1) (b + Tree.sp (e - b)) (e - b - Tree.sp (e - b)) (by omega) (by omega) (by omega), hmd]
          gi_wp2_with (gi_at_builtin; refine wpListIn_append_run rfl _ _ 30 rfl (.slice (some ⟨g, 0, none⟩) k c) _ _ w9 rfl rfl hap ?_)
          go_roundw
          case rel =>
            refine ⟨pre, st ++ [(mid, e), (b, mid)], F', ?_, hS9, J9⟩
            unfold Hid
            rw [hx1.out, hbr.out, show st ++ [(mid, e), (b, mid)] = (st ++ [(mid, e)]) ++ [(b, mid)] by simp, stO_snoc, stO_snoc, List.append_assoc]
          case measure =>
            rw [hmea.out, hm9.out, show st ++ [(mid, e), (b, mid)] = (st ++ [(mid, e)]) ++ [(b, mid)] by simp, stW_snoc, stW_snoc]
            have := hms.out
            show stW st + (2 * (e - mid) - 1) + (2 * (mid - b) - 1) < _
            omega
        · have hmle' : ¬ (m : Int) < ((e - b : Nat) : Int) := by omega
          have hbr : Hid (Tree.barF n b (e - b) cnt = []) := by
            have e1 : b + (e - b) = e := by omega
            have hc0 : cnt b (b + (e - b)) = m := by rw [e1]; exact hmc.out
            obtain ⟨n', rfl⟩ : ∃ n', n = n' + 1 := ⟨n - 1, by omega⟩
            unfold Hid
            rw [Tree.barF_all (by rw [hc0]; exact hm0) (by rw [hc0]; omega)]
          gi_wp2
          refine ⟨fun _ _ => trivial, ?_⟩
          gi_wp2
          refine ⟨trivial, fun h => (by cases h), (callsIn_wide.2 i5).mono ?_⟩
          clear i5 c40 c41
          rintro r W5 ⟨rfl, hb5⟩
          have hS5 := hid (hS4.out.below hb5)
          have J5 := hid (fJ.keep _ _ _ _ (fun _ => False) J4.out (Keep.ofBelow hb5) (fun _ _ e => e))
          clear hS4 J4 s4 hb5
          gi_wp2
          go_roundw
          case rel =>
            refine ⟨pre, st, F', ?_, hS5, J5⟩
            unfold Hid
            rw [hx1.out, hbr.out, List.nil_append]
          case measure =>
            rw [hmea.out, stM_eq hS5.out.own]
            omega
end Go.Proofs.YtbodgecbakcaaaaGreatDoor

namespace Go.Proofs.YtbodgecbakcaaaaGreatDoor
open Go.RowKit Go.Shelf
attribute [local go_sem] Oper.semAt_some
theorem Cnts.below {f : Nat} {lb : Array Value} {N : Nat} {c : Nat → Nat → Nat} {C : Nat → Prop} {w w' : World} (h : Cnts f lb N c C w) (hC : ∀ k, C k → k < w.heap.size) (hb : Below w.heap.size w w') : Cnts f lb N c C w' :=
  ⟨h.1, fun b e W hbe he hk hs => h.2 b e W hbe he (fun k hk' => (hk k hk').trans (hb.block k (hC k hk'))) (Nat.le_trans hb.size hs)⟩
set_option maxRecDepth 100000 in
set_option maxHeartbeats 8000000 in
theorem without_any (n f : Nat) (lb : Array Value) (cnt : Nat → Nat → Nat) (C0 : Nat → Prop) (hn : 1 ≤ n) (hn2 : n ≤ 1099511627776) (w : World)
    (hcn : Cnts f lb n cnt C0 w) (hcl : ∀ b e, cnt b e ≤ 1099511627776) (hC0 : ∀ k, C0 k → k < w.heap.size) :
    Calls Tryz.prog 69 #[.int .i64 (n : Int), .func (.func f) #[] lb] w fun r w' => Below w.heap.size w w' ∧ ∃ v, r = .returned v ∧ OwnP w' v (Tree.barF n 0 n cnt) ∧ ∀ k, v.ownBlock = some k → w.heap.size ≤ k := by
  refine (callsIn_wide (n := 9)).1 ?_
  refine callsIn_of_wp_marks Tryz.func69 rfl trivial ?_ rfl
  simp only [Tryz.ntmps69, List.size_toArray, List.length_cons, List.length_nil, Nat.reduceAdd, Nat.reduceSub, Array.replicate_succ, Array.replicate_zero, List.push_toArray, List.append_toArray, List.nil_append, List.cons_append]
  gi_wp2
  refine ⟨trivial, (callsIn_wide.2 (bare_any _ _ _ _)).mono ?_⟩
  rintro r w1 ⟨rfl, h1⟩
  have h1 := h1.symm
  subst h1
  gi_wp2
  obtain ⟨W4, hW4⟩ : ∃ W4, Hid ((((w.alloc (.cells #[.slice none 0 0] 30)).alloc (.cells #[.int .i64 (n : Int)] 3)).alloc (.cells #[.func (.func f) #[] lb] 114)) = W4) := ⟨_, rfl⟩
  rw [hW4.out]
  have z4 : W4.heap.size = w.heap.size + 3 := by rw [← hW4.out]; simp
  have B4 : Below w.heap.size w W4 := by rw [← hW4.out]; exact (((Below.refl _ w).alloc (Nat.le_refl _) _).alloc (by rw [size_alloc]; omega) _).alloc (by rw [size_alloc, size_alloc]; omega) _
  have R1 : Boxed W4 w.heap.size 30 (.slice none 0 0) := by rw [← hW4.out]; exact ((Boxed.new w 30 (.slice none 0 0)).alloc _).alloc _
  have R2 : Boxed W4 (w.heap.size + 1) 3 (.int .i64 (n : Int)) := by
    rw [← hW4.out]
    have := Boxed.new (w.alloc (.cells #[.slice none 0 0] 30)) 3 (.int .i64 (n : Int))
    rw [size_alloc] at this
    exact this.alloc _
  have R3 : Boxed W4 (w.heap.size + 1 + 1) 114 (.func (.func f) #[] lb) := by
    rw [← hW4.out]
    have := Boxed.new ((w.alloc (.cells #[.slice none 0 0] 30)).alloc (.cells #[.int .i64 (n : Int)] 3)) 114 (.func (.func f) #[] lb)
    rw [size_alloc, size_alloc] at this
    exact this
  clear hW4
  have hcn4 := hcn.below hC0 B4
  clear hcn
  have hbl := Tree.barF_len cnt n 0 n (Nat.le_refl _) hn
  refine range_foot (n := 9) (gf := 99) (lb := #[.pointer (some ⟨w.heap.size + 1, 0, none⟩), .pointer (some ⟨w.heap.size + 1 + 1, 0, none⟩)]) rfl (enters_of Tryz.func99 (by kernel_rfl) rfl)
    (bare_iter n _ _ f lb cnt C0 hn hn2 W4 R2.cell R3.cell hcn4 hcl (fun k hk => by have := hC0 k hk; omega)) (fun _ => rfl)
    (fun F pre W => ∃ v, F = Col.F w.heap.size v ∧ Col W w.heap.size 30 v pre)
    (fun _ _ _ _ => False)
    ⟨fun F pre W W' S ⟨v, hF, h⟩ hk hs => ⟨v, hF, h.keep hk (by rw [hF] at hs; exact hs)⟩, fun F pre W ⟨v, hF, h⟩ => by rw [hF]; exact h.lt⟩ (fun c => ⟨fun _ _ _ _ _ h _ _ => h, fun _ _ _ h => h.elim⟩)
    (Col.F w.heap.size (.slice none 0 0)) ⟨_, rfl, ⟨R1, OwnM.nil 2 W4, fun h => by cases h⟩⟩ ?dis ?cl
    (fun F pre x a W => ∃ v go, Col W w.heap.size 30 v pre ∧ F = (fun k => Col.F w.heap.size v k ∨ k = go) ∧ ¬ Col.F w.heap.size v go ∧ SpI W go x.1 x.2 ∧ a = { tmps := #[.int .i64 (n : Int), .func (.func f) #[] lb, undef, undef, .slice none 0 0, .pointer (some ⟨w.heap.size, 0, none⟩), .pointer (some ⟨go, 0, none⟩), .int .i64 (n : Int), .func (.func f) #[] lb, .func (.func 99) #[] #[.pointer (some ⟨w.heap.size + 1, 0, none⟩), .pointer (some ⟨w.heap.size + 1 + 1, 0, none⟩)], sg x.1 x.2, undef, undef, undef, undef, undef], defers := [] })
    ?fA ?assign ?body ?done ?stop
  case dis =>
    rintro k (rfl | e) (h | h | h)
    · have := hC0 _ h; omega
    · omega
    · omega
    · cases e
    · cases e
    · cases e
  case cl =>
    rintro k (h | rfl | rfl)
    · have := hC0 _ h; omega
    · omega
    · omega
  case fA =>
    rintro x a
    refine ⟨?_, ?_⟩
    · rintro F pre W W' S ⟨v, go, h1, rfl, h2, h3, h4⟩ hk hs
      exact ⟨v, go, h1.keep hk fun k e => hs k (.inl e), rfl, h2, h3.keep hk (hs _ (.inr rfl)), h4⟩
    · rintro F pre W ⟨v, go, h1, rfl, h2, h3, h4⟩ k (e | rfl)
      · exact h1.lt k e
      · exact lt_of_heap h3
  case assign =>
    rintro l F pre x rest W ⟨v, rfl, h1⟩ hx
    gi_wp2
    have hb := (Below.refl _ W).alloc (Nat.le_refl _) (.cells #[.int .i64 (x.1 : Int), .int .i64 (x.2 : Int)] 62)
    exact ⟨_, Mvs.alloc _ W _, v, W.heap.size, h1.below hb, rfl, fun h => by have := h1.lt _ h; omega, SpI.new W x.1 x.2, rfl⟩
  case body =>
    rintro l F pre x rest a W ⟨v, go, h1, rfl, h2, h3, rfl⟩ hx
    obtain ⟨x, y⟩ := x
    have hpl : pre.length ≤ 1099511627776 := by
      have := congrArg List.length hx
      rw [List.length_append] at this
      omega
    have c0 := h3.c0
    have c1 := h3.c1
    have d0 := h1.box.cell
    have hMv : Mvs (fun k => Col.F w.heap.size v k ∨ k = go) W W (Col.F w.heap.size v) := ⟨Keep.refl _ _, fun k hk => .inl (.inl hk)⟩
    obtain ⟨v', w3, hap, O3, G3⟩ := append_pair W v pre x y h1.own hpl
    obtain ⟨bx3, P3, M3⟩ := h1.push O3 G3
    have c3 := bx3.cell
    have f3 := bx3.frozen
    obtain ⟨va, vn, vc, rfl⟩ := ownM_sl h1.own
    obtain ⟨va', vn', vc', rfl⟩ := ownM_sl O3
    clear hx
    gi_wp2_with (gi_at_builtin; refine wpListIn_append_run rfl _ _ 30 rfl (.slice va vn vc) _ _ w3 rfl rfl hap ?_)
    exact ⟨_, hMv.trans M3, .slice va' vn' vc', rfl, P3⟩
  case done =>
    rintro D F W ⟨v, rfl, h1⟩ ha
    have hvD : v.ownBlock ≠ some D := fun e => ha.out (.inr e)
    have hvB : ∀ k, v.ownBlock = some k → w.heap.size ≤ k := fun k e => by
      rcases ha.new k (.inr e) with (q | q) | q
      · omega
      · cases q
      · omega
    have c0 := h1.box.cell
    obtain ⟨va, vn, vc, rfl⟩ := ownM_sl h1.own
    gi_wp2
    refine ⟨by simp, .inl ⟨_, _, rfl, run_takeDeferred ha.mark, ?_⟩⟩
    refine ⟨_, results_tmp rfl _ _ _, ?_, _, rfl, h1.own.keep (Keep.ofPut (S := fun k => k = D) _ D (.deferred none) rfl) (fun k hk e => hvD (e ▸ hk)), hvB⟩
    have k1 : Keep (fun k => w.heap.size ≤ k) W4 W := ha.keep.mono fun k _ h => by
      rcases h with (h | h) | h
      · omega
      · cases h
      · exact h.elim
    have k2 := k1.trans (Keep.ofPut (S := fun k => w.heap.size ≤ k) W D (.deferred none) (by have := ha.hi; omega)) fun _ _ h => h
    exact B4.trans (k2.belowOf (by omega) fun _ h => h)
  case stop =>
    rintro D c F pre W hp h ha
    exact h.elim
end Go.Proofs.YtbodgecbakcaaaaGreatDoor

namespace Go.Proofs.YtbodgecbakcaaaaGreatDoor
open Go.RowKit Go.Shelf
def Rsg (l : List Int) : Prop := ∀ j x y, l[j]? = some x → l[j + 1]? = some y → x < y
theorem rsg_pair : ∀ {l : List Int}, Rsg l → l.Pairwise (· < ·)
  | [], _ => List.Pairwise.nil
  | x :: l, h => by
    have ih : l.Pairwise (· < ·) := rsg_pair fun j a b ha hb => h (j + 1) a b (by simpa using ha) (by simpa using hb)
    refine List.Pairwise.cons (fun y hy => ?_) ih
    obtain ⟨k, hk⟩ := List.getElem?_of_mem hy
    have : ∀ (k : Nat) (y : Int), l[k]? = some y → x < y := fun k => by
      induction k with
      | zero => exact fun y hy => h 0 x y rfl (by simpa using hy)
      | succ k ihk =>
        intro y hy
        have hlt : k < l.length := by have := (List.getElem?_eq_some_iff.1 hy).1; omega
        have h1 := ihk l[k] (List.getElem?_eq_getElem hlt)
        have h2 := h (k + 1) l[k] y (by simp [hlt]) (by simpa using hy)
        omega
    exact this k y hk
theorem rsg_of_pair {l : List Int} (h : l.Pairwise (· < ·)) : Rsg l := fun j x y hx hy => by
  obtain ⟨h1, rfl⟩ := List.getElem?_eq_some_iff.1 hx
  obtain ⟨h2, rfl⟩ := List.getElem?_eq_some_iff.1 hy
  exact List.pairwise_iff_getElem.1 h j (j + 1) h1 h2 (by omega)
def rsgB (l : List Int) : Bool := decide (l.Pairwise (· < ·))
set_option maxRecDepth 100000 in
set_option maxHeartbeats 2000000 in
theorem rise_any (l : List Int) (a : Option Addr) (cap : Nat) (w : World) (hn : l.length ≤ 1099511627776) (hA : AtI w a l) :
    Calls Tryz.prog 67 #[.slice a l.length cap] w fun r w' => r = .returned (.bool (rsgB l)) ∧ Below w.heap.size w w' := by
  have HA := hid hA
  obtain ⟨n, hl⟩ : ∃ n, Hid (l.length = n) := ⟨_, rfl⟩
  rw [hl.out] at hn ⊢
  go_enter Tryz.func67, Tryz.ntmps67
  go_wp2
  go_loopw [3] (fun i w' => ∃ m : Nat, i = .int .i64 (m : Int) ∧ 1 ≤ m ∧ (m = 1 ∨ m ≤ n) ∧ Hid (∀ j x y, j + 1 < m → l[j]? = some x → l[j + 1]? = some y → x < y) ∧ Hid (Below w.heap.size w w')) (fun i _ => n + 1 - (intOf i).toNat)
  case atStart => exact ⟨1, rfl, Nat.le_refl _, .inl rfl, fun j x y hj => by omega, Below.refl _ _⟩
  case round =>
    obtain ⟨m, rfl, hm1, hk, hall, hB⟩ := hrel
    by_cases hkn : m < n
    · have b0 : (m : Int) < (n : Int) := by omega
      obtain ⟨k, hkm⟩ : ∃ k, Hid (k + 1 = m) := ⟨m - 1, show m - 1 + 1 = m by omega⟩
      have hkm' := hkm.out
      obtain ⟨x, rfl⟩ := HA.out.pos (by have := hl.out; omega)
      have hA' := HA.out.below hB.out (Nat.le_refl _)
      have hl' := hl.out
      have c0 := hA'.cell k (by omega)
      have c1 := hA'.cell m (by omega)
      have g0 : Hid (l[k]? = some (l[k]'(by omega))) := List.getElem?_eq_getElem _
      have g1 : Hid (l[m]? = some (l[m]'(by omega))) := List.getElem?_eq_getElem _
      generalize l[k]'(by omega) = u at *
      generalize l[m]'(by omega) = v at *
      have u0 : IntKind.i64.wrap ((m : Int) - 1) = (k : Int) := by rw [IntKind.wrap_i64]; omega
      have u1 : IntKind.i64.wrap ((m : Int) + 1) = ((m + 1 : Nat) : Int) := by rw [IntKind.wrap_i64]; omega
      have b1 : (k : Int) < (n : Int) := by omega
      have b2 : (0 : Int) ≤ (k : Int) := by omega
      have b3 : (0 : Int) ≤ (m : Int) := by omega
      clear hA' hl' hkm'
      by_cases huv : u < v
      · have d1 : decide (v ≤ u) = false := decide_eq_false (by omega)
        have hall' : Hid (∀ j x y, j + 1 < m + 1 → l[j]? = some x → l[j + 1]? = some y → x < y) := fun j x y hj hx hy => by
          by_cases e : j = k
          · subst e
            rw [g0.out] at hx; rw [hkm.out, g1.out] at hy
            obtain rfl := Option.some.inj hx
            obtain rfl := Option.some.inj hy
            exact huv
          · have := hkm.out; exact hall.out j x y (by omega) hx hy
        clear HA hall g0 g1
        go_wp2
        go_quiet (fail)
        go_wp2
        exact ⟨⟨m + 1, rfl, by omega, .inr (by omega), hall', by first | exact hB | exact hid hB.out.drew | exact hid (below_drewN hB.out _)⟩, by simp [intOf]; omega⟩
      · have d1 : decide (v ≤ u) = true := decide_eq_true (by omega)
        have er : Hid (rsgB l = false) := by
          unfold Hid rsgB
          rw [decide_eq_false]
          intro h
          exact huv (rsg_of_pair h k u v g0.out (by rw [hkm.out]; exact g1.out))
        clear HA hall g0 g1
        go_wp2
        go_quiet (fail)
        go_wp2
        go_ret
        exact ⟨by rw [er.out]; rfl, by first | exact hB.out | exact hB.out.drew | exact below_drewN hB.out _⟩
    · have b0 : ¬ (m : Int) < (n : Int) := by omega
      have er : Hid (rsgB l = true) := by
        unfold Hid rsgB
        rw [decide_eq_true]
        refine rsg_pair fun j x y hx hy => hall.out j x y ?_ hx hy
        have := (List.getElem?_eq_some_iff.1 hy).1
        have := hl.out
        omega
      clear HA hall
      go_wp2
      go_ret
      exact ⟨by rw [er.out]; rfl, hB.out⟩
end Go.Proofs.YtbodgecbakcaaaaGreatDoor
