import Derived.Test.YtblmaokonhdjaaaGreatDoorPkSP9
import Derived.Test.YtblmaokonhdjaaaGreatDoorPkO20
namespace Go.Proofs.YtblmaokonhdjaaaGreatDoor
open Go.RowKit Go.Shelf
attribute [local go_sem] Oper.semAt_some
set_option maxRecDepth 100000 in
set_option maxHeartbeats 8000000 in
theorem bare_iter (n p q f : Nat) (lb : Array Value) (cnt : Nat → Nat → Nat) (C0 : Nat → Prop) (hn : 1 ≤ n) (hn2 : n ≤ 1099511627776) (w : World) (hp : w.cell? ⟨p, 0, none⟩ = some (.int .i64 (n : Int))) (hq : w.cell? ⟨q, 0, none⟩ = some (.func (.func f) #[] lb))
    (hcn : Cnts f lb n cnt C0 w) (hcl : ∀ b e, cnt b e ≤ 1099511627776) (hC0 : ∀ k, C0 k → k < w.heap.size) :
    IterC Tryz.prog 191 #[.pointer (some ⟨p, 0, none⟩), .pointer (some ⟨q, 0, none⟩)] enS (Tree.barF n 0 n cnt) (fun k => C0 k ∨ k = p ∨ k = q) (fun _ => False) w := by
  intro N l J Jx F W fJ fX hW hFC hY h0
  have hpl : p < w.heap.size := World.block_lt_of_cell? w ⟨p, 0, none⟩ hp
  have hql : q < w.heap.size := World.block_lt_of_cell? w ⟨q, 0, none⟩ hq
  have hp1 : W.cell? ⟨p, 0, none⟩ = some (.int .i64 (n : Int)) := (hW.cell (p := ⟨p, 0, none⟩) hpl).trans hp
  have hs := hW.size
  refine callsIn_of_wp Tryz.func191 rfl trivial ?_ rfl
  simp only [Tryz.ntmps191, List.size_toArray, List.length_cons, List.length_nil, Nat.reduceAdd, Nat.reduceSub, Array.replicate_succ, Array.replicate_zero, List.push_toArray, List.append_toArray, List.nil_append, List.cons_append]
  gi_wp2
  have hFl := fJ.lt _ _ _ h0
  have hb0 := (Below.refl _ W).alloc (Nat.le_refl _) (.cells #[.int .i64 0, .int .i64 (n : Int)] 50)
  have J0 := hid (fJ.keep _ _ _ _ (fun _ => False) h0 (Keep.ofBelow hb0) (fun _ _ e => e))
  have St0 : Hid (Stk W (W.alloc (.cells #[.int .i64 0, .int .i64 (n : Int)] 50)) F F (.slice (some ⟨W.heap.size, 0, none⟩) 1 1) [(0, n)] n) := by
    have hnew := heap_alloc_new W (.cells #[.int .i64 0, .int .i64 (n : Int)] 50)
    refine ⟨.inr ⟨W.heap.size, 1, rfl, Nat.le_refl _, by rw [maxLen]; omega, rfl, fun j u hj => ?_, there_of_row hnew 0 _ (by simp), by rw [size_alloc]; omega⟩, fun k hk => by cases hk; exact Nat.le_refl _, fun k hk e => by have hk : some W.heap.size = some k := hk; injection hk with hk; have := hFl _ e; omega, Keep.ofBelow hb0, fun k hk => .inl hk, fun s hs => ?_, ?_⟩
    · rw [cell_of_row _ _ _ _ _ _ hnew, Nat.zero_add]; simpa [prs] using hj
    · obtain rfl : s = (0, n) := by simpa using hs
      exact ⟨by show 0 < n; omega, Nat.le_refl _⟩
    · simp [stL]
  clear hb0
  gi_loopw [4] (fun v wr => ∃ (pre st : List (Nat × Nat)) (F' : Nat → Prop), Hid (Tree.barF n 0 n cnt = pre ++ stO n cnt st) ∧ Hid (Stk W wr F F' v st n) ∧ Hid (J F' pre wr)) (fun v wr => stM v wr)
  case atStart =>
    refine ⟨[], [(0, n)], F, ?_, St0, J0⟩
    unfold Hid
    rw [stO, stO, List.nil_append, List.nil_append]; rfl
  case round =>
    clear St0 J0
    obtain ⟨pre, st, F', hx, hS, hJ⟩ := hrel
    rcases List.eq_nil_or_concat st with rfl | ⟨st, ⟨b, e⟩, rfl⟩
    · rcases hS.out.own with ⟨rfl, _⟩ | ⟨g, c, rfl, _⟩
      · gi_wp2
        go_end0
        refine ⟨⟨_, rfl⟩, F', hS.out.keep.mono fun k _ h => .inl h, hS.out.new, .inl ?_⟩
        rw [hx.out, stO, List.append_nil]
        exact hJ.out
      · simp only [List.length_nil] at *
        gi_wp2
        go_end0
        refine ⟨⟨_, rfl⟩, F', hS.out.keep.mono fun k _ h => .inl h, hS.out.new, .inl ?_⟩
        rw [hx.out, stO, List.append_nil]
        exact hJ.out
    · rw [List.concat_eq_append] at hx hS
      obtain ⟨g, c, rfl, hc1, hc2, t0, t1⟩ := hS.out.top
      have hbe := hS.out.lt (b, e) (List.mem_append.2 (.inr (by simp)))
      have hbe1 : b < e := hbe.1
      have hen : e ≤ n := hbe.2
      have hS1 := hid hS.out.pop
      have hsum := hS.out.sum
      rw [stL_snoc] at hsum
      have hstl : st.length ≤ n := by
        have := stL_len (l := st) fun s hs => (hS1.out.lt s hs).1
        omega
      have hx1 : Hid (Tree.barF n 0 n cnt = pre ++ (Tree.barF n b (e - b) cnt ++ stO n cnt st)) := by unfold Hid; rw [hx.out, stO_snoc]
      have hmea : Hid (stM (.slice (some ⟨g, 0, none⟩) (st.length + 1) c) wr = stW st + (2 * (e - b) - 1)) := by unfold Hid; rw [stM_eq hS.out.own, stW_snoc]
      have hq0 : wr.cell? ⟨q, 0, none⟩ = some (.func (.func f) #[] lb) := by
        have hb := hS.out.keep.block q (by omega) (fun h => hFC q h (.inr (.inr rfl)))
        exact ((World.cell?_of_block (a := ⟨q, 0, none⟩) hb).trans (hW.cell (p := ⟨q, 0, none⟩) hql)).trans hq
      have hCk : Hid (∀ k, C0 k → wr.heap[k]? = w.heap[k]?) := fun k hk => (hS.out.keep.block k (by have := hC0 k hk; omega) (fun h => hFC k h (.inl hk))).trans (hW.block k (hC0 k hk))
      have hwsz : Hid (w.heap.size ≤ wr.heap.size) := by unfold Hid; have := hS.out.keep.size; omega
      clear hS hx
      obtain ⟨k, hk⟩ : ∃ k, Hid (st.length = k) := ⟨_, rfl⟩
      rw [hk.out] at hS1 hmea hc1 t0 t1 hstl ⊢
      have b0 : (0 : Int) < ((k + 1 : Nat) : Int) := by omega
      have u0 : IntKind.i64.wrap (((k + 1 : Nat) : Int) - 1) = (k : Int) := by rw [IntKind.wrap_i64]; omega
      have u1 : (k : Int) < ((k + 1 : Nat) : Int) := by omega
      have u2 : (0 : Int) ≤ (k : Int) := by omega
      have u3 : (k : Int) ≤ (c : Int) := by omega
      have heg := hcn.1
      have hbA := (Below.refl _ wr).alloc (Nat.le_refl _) (.cells #[.int .i64 (b : Int), .int .i64 (e : Int)] 50)
      have hqA : (wr.alloc (.cells #[.int .i64 (b : Int), .int .i64 (e : Int)] 50)).cell? ⟨q, 0, none⟩ = some (.func (.func f) #[] lb) := (hbA.cell (p := ⟨q, 0, none⟩) (World.block_lt_of_cell? wr ⟨q, 0, none⟩ hq0)).trans hq0
      have sA := hid (SpI.new wr b e)
      have cA0 := sA.out.c0
      have cA1 := sA.out.c1
      have hSA := hid (hS1.out.below hbA)
      have JA := hid (fJ.keep _ _ _ _ (fun _ => False) hJ.out (Keep.ofBelow hbA) (fun _ _ e => e))
      have i4 := hcn.2 b e (wr.alloc (.cells #[.int .i64 (b : Int), .int .i64 (e : Int)] 50)) (by omega) hen (fun k hk => (hbA.block k (by have := hC0 k hk; have := hwsz.out; omega)).trans (hCk.out k hk)) (Nat.le_trans hwsz.out hbA.size)
      have hgs : Hid (¬ F' wr.heap.size) := fun h => by have := fJ.lt _ _ _ hJ.out _ h; omega
      have hgv : Hid (∀ k', (Value.slice (some ⟨g, 0, none⟩) k c).ownBlock = some k' → k' < wr.heap.size) := fun k' h => hS1.out.own.lt k' h
      clear hS1 hJ hq0
      obtain ⟨gs, hgse⟩ : ∃ gs, Hid (wr.heap.size = gs) := ⟨_, rfl⟩
      gi_wp2
      refine ⟨trivial, fun h => (by cases h), (callsIn_wide.2 i4).mono ?_⟩
      clear i4 hqA cA0 cA1
      rintro r W4 ⟨rfl, hb4⟩
      have hS4 := hid (hSA.out.below hb4)
      have J4 := hid (fJ.keep _ _ _ _ (fun _ => False) JA.out (Keep.ofBelow hb4) (fun _ _ e => e))
      have s4 := sA.out.below hb4
      have c40 := s4.c0
      have c41 := s4.c1
      have s4 := hid s4
      rw [hgse.out] at *
      clear hSA JA sA hbA hb4 t0 t1 hCk hwsz
      have hcn1 := hcl b e
      obtain ⟨m, hmc⟩ : ∃ m, Hid (cnt b e = m) := ⟨_, rfl⟩
      rw [hmc.out] at hcn1 ⊢
      by_cases hm0 : m = 0
      · subst hm0
        have hbr : Hid (Tree.barF n b (e - b) cnt = [(b, e)]) := by
          obtain ⟨n', rfl⟩ : ∃ n', n = n' + 1 := ⟨n - 1, by omega⟩
          unfold Hid
          rw [Tree.barF_no (by rw [show b + (e - b) = e by omega]; exact hmc.out), show b + (e - b) = e by omega]
        obtain ⟨fn, tmps, assign, body, hy, hR⟩ := hY F' pre (b, e) (stO n cnt st) W4 J4.out (by rw [hx1.out, hbr.out]; rfl)
        gi_wp2
        refine ⟨fun h => (by cases h), hR.mono ?_⟩
        clear hR hy c40 c41
        rintro e' W5 ⟨F3, hm, hh⟩
        have hS5 := hid (hS4.out.round hm)
        rcases hh with ⟨rfl, hJ5⟩ | ⟨rfl, hX5⟩
        · gi_wp2
          refine ⟨trivial, ?_⟩
          gi_wp2
          go_roundw
          case rel =>
            refine ⟨pre ++ [(b, e)], st, F3, ?_, hS5, hJ5⟩
            unfold Hid
            rw [hx1.out, hbr.out, List.append_assoc]
          case measure =>
            rw [hmea.out, stM_eq hS5.out.own]
            omega
        · gi_wp2
          refine bodyPost_ret (results_none rfl _ _ _) rfl ?_
          refine ⟨⟨_, rfl⟩, F3, hS5.out.keep.mono fun k _ h => .inl h, hS5.out.new, .inr ⟨pre ++ [(b, e)], ⟨stO n cnt st, ?_⟩, hX5⟩⟩
          rw [hx1.out, hbr.out, List.append_assoc]
      · have hm1 : (0 : Int) < (m : Int) := by omega
        have hm2 : ((m : Int) == 0) = false := by simpa using hm0
        have i5 := slen_nat b e (by omega) (by omega) W4
        by_cases hmle : m < e - b
        · have hmle' : (m : Int) < ((e - b : Nat) : Int) := by omega
          obtain ⟨mid, hmid⟩ : ∃ mid, Hid (mid = b + Tree.sp (e - b)) := ⟨_, rfl⟩
          have i6 := fun w' => parts_at b e mid (by omega) (by omega) hmid w'
          have hms : Hid (b < mid ∧ mid < e) := by
            have s1 := Tree.sp_lt (n := e - b) (by omega)
            have s2 := Tree.sp_pos (n := e - b) (by omega)
            have := hmid.out
            unfold Hid; omega
          gi_wp2
          refine ⟨fun _ _ => trivial, ?_⟩
          gi_wp2
          refine ⟨trivial, fun h => (by cases h), (callsIn_wide.2 i5).mono ?_⟩
          clear i5 c40 c41
          rintro r W5 ⟨rfl, hb5⟩
          have s5 := s4.out.below hb5
          have c50 := s5.c0
          have c51 := s5.c1
          have hS5 := hid (hS4.out.below hb5)
          have J5 := hid (fJ.keep _ _ _ _ (fun _ => False) J4.out (Keep.ofBelow hb5) (fun _ _ e => e))
          clear hS4 J4 s4 hb5
          gi_wp2
          refine ⟨trivial, fun h => (by cases h), (callsIn_wide.2 (i6 _)).mono ?_⟩
          clear i6 c50 c51
          rintro r W6 ⟨rfl, hb6⟩
          have hb8 := ((Below.refl _ W6).alloc (Nat.le_refl _) (.cells #[.int .i64 (b : Int), .int .i64 (mid : Int)] 50)).alloc (by rw [size_alloc]; omega) (.cells #[.int .i64 (mid : Int), .int .i64 (e : Int)] 50)
          have L8 := (SpI.new W6 b mid).below ((Below.refl _ _).alloc (Nat.le_refl _) (.cells #[.int .i64 (mid : Int), .int .i64 (e : Int)] 50))
          have R8 := SpI.new (W6.alloc (.cells #[.int .i64 (b : Int), .int .i64 (mid : Int)] 50)) mid e
          rw [size_alloc] at R8
          have l0 := L8.c0
          have l1 := L8.c1
          have r0 := R8.c0
          have r1 := R8.c1
          have hS8 := hid ((hS5.out.below hb6).below hb8)
          have J8 := hid (fJ.keep _ _ _ _ (fun _ => False) J5.out (Keep.ofBelow (hb6.trans (hb8.mono hb6.size))) (fun _ _ e => e))
          obtain ⟨v', w9, hap, O9, G9⟩ := append_two _ _ st mid e b mid hS8.out.own (by have := hk.out; omega)
          have hP := hS8.out.push O9 G9 hms.out.1 hms.out.2 hen (by omega) (fJ.lt _ _ _ J8.out)
          have hS9 := hid hP.1
          have J9 := hid (fJ.keep _ _ _ _ _ J8.out hP.2 (fun k hk e => hS8.out.out k e hk))
          have hm9 := hid (stM_eq O9)
          obtain ⟨va', vn', vc', rfl⟩ := ownM_sl O9
          rw [size_alloc, size_alloc] at hap
          clear hS5 J5 L8 R8 hb8 hb6 hP O9 G9 hS8 J8
          have hbr : Hid (Tree.barF n b (e - b) cnt = Tree.barF n b (mid - b) cnt ++ Tree.barF n mid (e - mid) cnt) := by
            have s1 := Tree.sp_lt (n := e - b) (by omega)
            have s2 := Tree.sp_pos (n := e - b) (by omega)
            have hmd := hmid.out
            have e1 : b + (e - b) = e := by omega
            have e2 : mid - b = Tree.sp (e - b) := by omega
            have e3 : e - mid = e - b - Tree.sp (e - b) := by omega
            have hc0 : cnt b (b + (e - b)) = m := by rw [e1]; exact hmc.out
            obtain ⟨n', rfl⟩ : ∃ n', n = n' + 1 := ⟨n - 1, by omega⟩
            unfold Hid
            rw [Tree.barF_two (by rw [hc0]; exact hm0) (by rw [hc0]; omega), e2, e3, Tree.barF_fuel cnt n' (n' + 1) b (Tree.sp (e - b)) (by omega) (by omega) (by omega), Tree.barF_fuel cnt n' (n' + 1) (b + Tree.sp (e - b)) (e - b - Tree.sp (e - b)) (by omega) (by omega) (by omega), hmd]
          gi_wp2_with (gi_at_builtin; refine wpListIn_append_run rfl _ _ 75 rfl (.slice (some ⟨g, 0, none⟩) k c) _ _ w9 rfl rfl hap ?_)
          go_roundw
          case rel =>
            refine ⟨pre, st ++ [(mid, e), (b, mid)], F', ?_, hS9, J9⟩
            unfold Hid
            rw [hx1.out, hbr.out, show st ++ [(mid, e), (b, mid)] = (st ++ [(mid, e)]) ++ [(b, mid)] by simp, stO_snoc, stO_snoc, List.append_assoc]
          case measure =>
            rw [hmea.out, hm9.out, show st ++ [(mid, e), (b, mid)] = (st ++ [(mid, e)]) ++ [(b, mid)] by simp, stW_snoc, stW_snoc]
            have := hms.out
            show stW st + (2 * (e - mid) - 1) + (2 * (mid - b) - 1) < _
            omega
        · have hmle' : ¬ (m : Int) < ((e - b : Nat) : Int) := by omega
          have hbr : Hid (Tree.barF n b (e - b) cnt = []) := by
            have e1 : b + (e - b) = e := by omega
            have hc0 : cnt b (b + (e - b)) = m := by rw [e1]; exact hmc.out
            obtain ⟨n', rfl⟩ : ∃ n', n = n' + 1 := ⟨n - 1, by omega⟩
            unfold Hid
            rw [Tree.barF_all (by rw [hc0]; exact hm0) (by rw [hc0]; omega)]
          gi_wp2
          refine ⟨fun _ _ => trivial, ?_⟩
          gi_wp2
          refine ⟨trivial, fun h => (by cases h), (callsIn_wide.2 i5).mono ?_⟩
          clear i5 c40 c41
          rintro r W5 ⟨rfl, hb5⟩
          have hS5 := hid (hS4.out.below hb5)
          have J5 := hid (fJ.keep _ _ _ _ (fun _ => False) J4.out (Keep.ofBelow hb5) (fun _ _ e => e))
          clear hS4 J4 s4 hb5
          gi_wp2
          go_roundw
          case rel =>
            refine ⟨pre, st, F', ?_, hS5, J5⟩
            unfold Hid
            rw [hx1.out, hbr.out, List.nil_append]
          case measure =>
            rw [hmea.out, stM_eq hS5.out.own]
            omega
end Go.Proofs.YtblmaokonhdjaaaGreatDoor

namespace Go.Proofs.YtblmaokonhdjaaaGreatDoor
open Go.RowKit Go.Shelf
attribute [local go_sem] Oper.semAt_some
theorem Cnts.below {f : Nat} {lb : Array Value} {N : Nat} {c : Nat → Nat → Nat} {C : Nat → Prop} {w w' : World} (h : Cnts f lb N c C w) (hC : ∀ k, C k → k < w.heap.size) (hb : Below w.heap.size w w') : Cnts f lb N c C w' :=
  ⟨h.1, fun b e W hbe he hk hs => h.2 b e W hbe he (fun k hk' => (hk k hk').trans (hb.block k (hC k hk'))) (Nat.le_trans hb.size hs)⟩
set_option maxRecDepth 100000 in
set_option maxHeartbeats 8000000 in
theorem without_any (n f : Nat) (lb : Array Value) (cnt : Nat → Nat → Nat) (C0 : Nat → Prop) (hn : 1 ≤ n) (hn2 : n ≤ 1099511627776) (w : World)
    (hcn : Cnts f lb n cnt C0 w) (hcl : ∀ b e, cnt b e ≤ 1099511627776) (hC0 : ∀ k, C0 k → k < w.heap.size) :
    Calls Tryz.prog 139 #[.int .i64 (n : Int), .func (.func f) #[] lb] w fun r w' => Below w.heap.size w w' ∧ ∃ v, r = .returned v ∧ OwnP w' v (Tree.barF n 0 n cnt) ∧ ∀ k, v.ownBlock = some k → w.heap.size ≤ k := by
  refine (callsIn_wide (n := 9)).1 ?_
  refine callsIn_of_wp_marks Tryz.func139 rfl trivial ?_ rfl
  simp only [Tryz.ntmps139, List.size_toArray, List.length_cons, List.length_nil, Nat.reduceAdd, Nat.reduceSub, Array.replicate_succ, Array.replicate_zero, List.push_toArray, List.append_toArray, List.nil_append, List.cons_append]
  gi_wp2
  refine ⟨trivial, (callsIn_wide.2 (bare_any _ _ _ _)).mono ?_⟩
  rintro r w1 ⟨rfl, h1⟩
  have h1 := h1.symm
  subst h1
  gi_wp2
  obtain ⟨W4, hW4⟩ : ∃ W4, Hid ((((w.alloc (.cells #[.slice none 0 0] 75)).alloc (.cells #[.int .i64 (n : Int)] 3)).alloc (.cells #[.func (.func f) #[] lb] 214)) = W4) := ⟨_, rfl⟩
  rw [hW4.out]
  have z4 : W4.heap.size = w.heap.size + 3 := by rw [← hW4.out]; simp
  have B4 : Below w.heap.size w W4 := by rw [← hW4.out]; exact (((Below.refl _ w).alloc (Nat.le_refl _) _).alloc (by rw [size_alloc]; omega) _).alloc (by rw [size_alloc, size_alloc]; omega) _
  have R1 : Boxed W4 w.heap.size 75 (.slice none 0 0) := by rw [← hW4.out]; exact ((Boxed.new w 75 (.slice none 0 0)).alloc _).alloc _
  have R2 : Boxed W4 (w.heap.size + 1) 3 (.int .i64 (n : Int)) := by
    rw [← hW4.out]
    have := Boxed.new (w.alloc (.cells #[.slice none 0 0] 75)) 3 (.int .i64 (n : Int))
    rw [size_alloc] at this
    exact this.alloc _
  have R3 : Boxed W4 (w.heap.size + 1 + 1) 214 (.func (.func f) #[] lb) := by
    rw [← hW4.out]
    have := Boxed.new ((w.alloc (.cells #[.slice none 0 0] 75)).alloc (.cells #[.int .i64 (n : Int)] 3)) 214 (.func (.func f) #[] lb)
    rw [size_alloc, size_alloc] at this
    exact this
  clear hW4
  have hcn4 := hcn.below hC0 B4
  clear hcn
  have hbl := Tree.barF_len cnt n 0 n (Nat.le_refl _) hn
  refine range_foot (n := 9) (gf := 191) (lb := #[.pointer (some ⟨w.heap.size + 1, 0, none⟩), .pointer (some ⟨w.heap.size + 1 + 1, 0, none⟩)]) rfl (enters_of Tryz.func191 (by kernel_rfl) rfl)
    (bare_iter n _ _ f lb cnt C0 hn hn2 W4 R2.cell R3.cell hcn4 hcl (fun k hk => by have := hC0 k hk; omega)) (fun _ => rfl)
    (fun F pre W => ∃ v, F = Col.F w.heap.size v ∧ Col W w.heap.size 75 v pre)
    (fun _ _ _ _ => False)
    ⟨fun F pre W W' S ⟨v, hF, h⟩ hk hs => ⟨v, hF, h.keep hk (by rw [hF] at hs; exact hs)⟩, fun F pre W ⟨v, hF, h⟩ => by rw [hF]; exact h.lt⟩ (fun c => ⟨fun _ _ _ _ _ h _ _ => h, fun _ _ _ h => h.elim⟩)
    (Col.F w.heap.size (.slice none 0 0)) ⟨_, rfl, ⟨R1, OwnM.nil 2 W4, fun h => by cases h⟩⟩ ?dis ?cl
    (fun F pre x a W => ∃ v go, Col W w.heap.size 75 v pre ∧ F = (fun k => Col.F w.heap.size v k ∨ k = go) ∧ ¬ Col.F w.heap.size v go ∧ SpI W go x.1 x.2 ∧ a = { tmps := #[.int .i64 (n : Int), .func (.func f) #[] lb, undef, undef, .slice none 0 0, .pointer (some ⟨w.heap.size, 0, none⟩), .pointer (some ⟨go, 0, none⟩), .int .i64 (n : Int), .func (.func f) #[] lb, .func (.func 191) #[] #[.pointer (some ⟨w.heap.size + 1, 0, none⟩), .pointer (some ⟨w.heap.size + 1 + 1, 0, none⟩)], sg x.1 x.2, undef, undef, undef, undef, undef], defers := [] })
    ?fA ?assign ?body ?done ?stop
  case dis =>
    rintro k (rfl | e) (h | h | h)
    · have := hC0 _ h; omega
    · omega
    · omega
    · cases e
    · cases e
    · cases e
  case cl =>
    rintro k (h | rfl | rfl)
    · have := hC0 _ h; omega
    · omega
    · omega
  case fA =>
    rintro x a
    refine ⟨?_, ?_⟩
    · rintro F pre W W' S ⟨v, go, h1, rfl, h2, h3, h4⟩ hk hs
      exact ⟨v, go, h1.keep hk fun k e => hs k (.inl e), rfl, h2, h3.keep hk (hs _ (.inr rfl)), h4⟩
    · rintro F pre W ⟨v, go, h1, rfl, h2, h3, h4⟩ k (e | rfl)
      · exact h1.lt k e
      · exact lt_of_heap h3
  case assign =>
    rintro l F pre x rest W ⟨v, rfl, h1⟩ hx
    gi_wp2
    have hb := (Below.refl _ W).alloc (Nat.le_refl _) (.cells #[.int .i64 (x.1 : Int), .int .i64 (x.2 : Int)] 50)
    exact ⟨_, Mvs.alloc _ W _, v, W.heap.size, h1.below hb, rfl, fun h => by have := h1.lt _ h; omega, SpI.new W x.1 x.2, rfl⟩
  case body =>
    rintro l F pre x rest a W ⟨v, go, h1, rfl, h2, h3, rfl⟩ hx
    obtain ⟨x, y⟩ := x
    have hpl : pre.length ≤ 1099511627776 := by
      have := congrArg List.length hx
      rw [List.length_append] at this
      omega
    have c0 := h3.c0
    have c1 := h3.c1
    have d0 := h1.box.cell
    have hMv : Mvs (fun k => Col.F w.heap.size v k ∨ k = go) W W (Col.F w.heap.size v) := ⟨Keep.refl _ _, fun k hk => .inl (.inl hk)⟩
    obtain ⟨v', w3, hap, O3, G3⟩ := append_pair W v pre x y h1.own hpl
    obtain ⟨bx3, P3, M3⟩ := h1.push O3 G3
    have c3 := bx3.cell
    have f3 := bx3.frozen
    obtain ⟨va, vn, vc, rfl⟩ := ownM_sl h1.own
    obtain ⟨va', vn', vc', rfl⟩ := ownM_sl O3
    clear hx
    gi_wp2_with (gi_at_builtin; refine wpListIn_append_run rfl _ _ 75 rfl (.slice va vn vc) _ _ w3 rfl rfl hap ?_)
    exact ⟨_, hMv.trans M3, .slice va' vn' vc', rfl, P3⟩
  case done =>
    rintro D F W ⟨v, rfl, h1⟩ ha
    have hvD : v.ownBlock ≠ some D := fun e => ha.out (.inr e)
    have hvB : ∀ k, v.ownBlock = some k → w.heap.size ≤ k := fun k e => by
      rcases ha.new k (.inr e) with (q | q) | q
      · omega
      · cases q
      · omega
    have c0 := h1.box.cell
    obtain ⟨va, vn, vc, rfl⟩ := ownM_sl h1.own
    gi_wp2
    refine ⟨by simp, .inl ⟨_, _, rfl, run_takeDeferred ha.mark, ?_⟩⟩
    refine ⟨_, results_tmp rfl _ _ _, ?_, _, rfl, h1.own.keep (Keep.ofPut (S := fun k => k = D) _ D (.deferred none) rfl) (fun k hk e => hvD (e ▸ hk)), hvB⟩
    have k1 : Keep (fun k => w.heap.size ≤ k) W4 W := ha.keep.mono fun k _ h => by
      rcases h with (h | h) | h
      · omega
      · cases h
      · exact h.elim
    have k2 := k1.trans (Keep.ofPut (S := fun k => w.heap.size ≤ k) W D (.deferred none) (by have := ha.hi; omega)) fun _ _ h => h
    exact B4.trans (k2.belowOf (by omega) fun _ h => h)
  case stop =>
    rintro D c F pre W hp h ha
    exact h.elim
end Go.Proofs.YtblmaokonhdjaaaGreatDoor

namespace Go.Proofs.YtblmaokonhdjaaaGreatDoor
open Go.RowKit Go.Shelf
/-- each is above the one ahead of it -/
def Rsg (l : List Int) : Prop := ∀ j x y, l[j]? = some x → l[j + 1]? = some y → x < y
theorem rsg_pair : ∀ {l : List Int}, Rsg l → l.Pairwise (· < ·)
  | [], _ => List.Pairwise.nil
  | x :: l, h => by
    have ih : l.Pairwise (· < ·) := rsg_pair fun j a b ha hb => h (j + 1) a b (by simpa using ha) (by simpa using hb)
    refine List.Pairwise.cons (fun y hy => ?_) ih
    obtain ⟨k, hk⟩ := List.getElem?_of_mem hy
    have : ∀ (k : Nat) (y : Int), l[k]? = some y → x < y := fun k => by
      induction k with
      | zero => exact fun y hy => h 0 x y rfl (by simpa using hy)
      | succ k ihk =>
        intro y hy
        have hlt : k < l.length := by have := (List.getElem?_eq_some_iff.1 hy).1; omega
        have h1 := ihk l[k] (List.getElem?_eq_getElem hlt)
        have h2 := h (k + 1) l[k] y (by simp [hlt]) (by simpa using hy)
        omega
    exact this k y hk
theorem rsg_of_pair {l : List Int} (h : l.Pairwise (· < ·)) : Rsg l := fun j x y hx hy => by
  obtain ⟨h1, rfl⟩ := List.getElem?_eq_some_iff.1 hx
  obtain ⟨h2, rfl⟩ := List.getElem?_eq_some_iff.1 hy
  exact List.pairwise_iff_getElem.1 h j (j + 1) h1 h2 (by omega)
def rsgB (l : List Int) : Bool := decide (l.Pairwise (· < ·))
end Go.Proofs.YtblmaokonhdjaaaGreatDoor

namespace Go.Proofs.YtblmaokonhdjaaaGreatDoor
open Go.RowKit Go.Shelf
/-- H4 -/
def batchE (n : Int) (l : List Int) : Int :=
  if 1 ≤ n ∧ n ≤ 1099511627776 then (if l.length = 0 ∨ 256 < l.length then 83 else if rsgB l = true then (if 0 ≤ l.getD 0 0 ∧ l.getD 0 0 < n then (if 0 ≤ l.getD (l.length - 1) 0 ∧ l.getD (l.length - 1) 0 < n then 0 else 80) else 80) else 82) else 81
def batchL (n : Int) (l : List Int) : List (Nat × Nat) := if batchE n l = 0 then Tree.othF n.toNat 0 n.toNat (toN l) else []
theorem getD_at {l : List Int} {k : Nat} (h : k < l.length) : l.getD k 0 = l[k] := by simp [List.getD, h]
structure BatOk (n : Int) (l : List Int) : Prop where
  n1 : 1 ≤ n
  n2 : n ≤ 1099511627776
  l1 : 0 < l.length
  l2 : l.length ≤ 256
  so : l.Pairwise (· < ·)
  f0 : 0 ≤ l.getD 0 0
  fn : l.getD 0 0 < n
  e0 : 0 ≤ l.getD (l.length - 1) 0
  en : l.getD (l.length - 1) 0 < n
theorem batchE_ok {n : Int} {l : List Int} (h : BatOk n l) : batchE n l = 0 := by
  unfold batchE
  rw [if_pos ⟨h.n1, h.n2⟩, if_neg (by have := h.l1; have := h.l2; omega), if_pos (by unfold rsgB; exact decide_eq_true h.so), if_pos ⟨h.f0, h.fn⟩, if_pos ⟨h.e0, h.en⟩]
theorem BatOk.of {n : Int} {l : List Int} (h : batchE n l = 0) : BatOk n l := by
  unfold batchE at h
  split at h
  · rename_i h1
    split at h
    · cases h
    · rename_i h2
      split at h
      · rename_i h3
        split at h
        · rename_i h4
          split at h
          · rename_i h5
            exact ⟨h1.1, h1.2, by omega, by omega, of_decide_eq_true h3, h4.1, h4.2, h5.1, h5.2⟩
          · cases h
        · cases h
      · cases h
  · cases h
theorem BatOk.all {n : Int} {l : List Int} (h : BatOk n l) : ∀ i ∈ l, 0 ≤ i ∧ i < n := fun i hi => by
  obtain ⟨k, hk, rfl⟩ := List.mem_iff_getElem.1 hi
  have f0 := h.f0
  have en := h.en
  have l1 := h.l1
  rw [getD_at h.l1] at f0
  rw [getD_at (show l.length - 1 < l.length by omega)] at en
  have hp := List.pairwise_iff_getElem.1 h.so
  constructor
  · by_cases e : 0 = k
    · subst e; exact f0
    · have := hp 0 k h.l1 hk (by omega); omega
  · by_cases e : k = l.length - 1
    · subst e; exact en
    · have := hp k (l.length - 1) hk (by omega) (by omega); omega
theorem BatOk.ix {n : Int} {l : List Int} (h : BatOk n l) : ix (toN l) = l := by
  refine List.ext_getElem? fun k => ?_
  unfold Go.Proofs.YtblmaokonhdjaaaGreatDoor.ix toN
  rw [List.getElem?_map, List.getElem?_map]
  cases hk : l[k]? with
  | none => rfl
  | some x =>
    have := h.all x (List.mem_of_getElem? hk)
    simp only [Option.map_some]
    rw [Int.toNat_of_nonneg this.1]
theorem BatOk.sorted {n : Int} {l : List Int} (h : BatOk n l) : (toN l).Pairwise (· < ·) := by
  unfold toN
  rw [List.pairwise_map]
  refine h.so.imp_of_mem fun {a b} ha hb hab => ?_
  have := h.all a ha
  have := h.all b hb
  omega
theorem BatOk.len {n : Int} {l : List Int} (_ : BatOk n l) : (toN l).length = l.length := by unfold toN; rw [List.length_map]
theorem BatOk.lt {n : Int} {l : List Int} (h : BatOk n l) : ∀ i ∈ toN l, i < n.toNat := fun i hi => by
  unfold toN at hi
  obtain ⟨x, hx, rfl⟩ := List.mem_map.1 hi
  have := h.all x hx
  omega
/-- a list, as a value -/
def OneV (v : Value) : Prop := ∃ a n c, v = .slice a n c
theorem SpP.bad {w w' : World} {c : Int} (hb : Below w.heap.size w w') : SpP w c [] (.returned (.tuple #[.slice none 0 0, .int .i64 c])) w' := ⟨hb, _, rfl, OwnM.nil 2 _, fun k hk => by cases hk⟩
end Go.Proofs.YtblmaokonhdjaaaGreatDoor

namespace Go.Proofs.YtblmaokonhdjaaaGreatDoor
open Go.RowKit Go.Shelf
/-- H4 -/
def runE (n x y : Int) : Int := if 1 ≤ n ∧ n ≤ 1099511627776 then (if 0 ≤ x ∧ x < y ∧ y ≤ n then 0 else 80) else 81
def runL (n x y : Int) : List (Nat × Nat) := if runE n x y = 0 then Tree.runF n.toNat 0 n.toNat x.toNat y.toNat else []
set_option maxRecDepth 100000 in
set_option maxHeartbeats 4000000 in
theorem run8_any (n x y : Int) (w : World) : Calls Tryz.prog 90 #[.int .i64 n, sg x y] w (SpP w (runE n x y) (runL n x y)) := by
  have S0 := SpI.new w x y
  have B0 := (Below.refl _ w).alloc (Nat.le_refl _) (.cells #[.int .i64 x, .int .i64 y] 50)
  have c0 := S0.c0
  have c1 := S0.c1
  by_cases h1 : 1 ≤ n ∧ n ≤ 1099511627776
  · have i1 := fun w' => isSize_is n true (by simpa using h1) w'
    by_cases h2 : 0 ≤ x ∧ x < y ∧ y ≤ n
    · have eE : runE n x y = 0 := by unfold runE; rw [if_pos h1, if_pos h2]
      have eL : runL n x y = Tree.runF n.toNat 0 n.toNat x.toNat y.toNat := by unfold runL; rw [if_pos eE]
      rw [eE, eL]
      clear eE eL
      obtain ⟨N, rfl⟩ := Int.eq_ofNat_of_zero_le (show 0 ≤ n by omega)
      obtain ⟨X, rfl⟩ := Int.eq_ofNat_of_zero_le (show 0 ≤ x by omega)
      obtain ⟨Y, rfl⟩ := Int.eq_ofNat_of_zero_le (show 0 ≤ y by omega)
      rw [Int.toNat_natCast, Int.toNat_natCast, Int.toNat_natCast, ← Tree.barF_run X Y (by omega) N 0 N (Nat.le_refl _) (by omega)]
      have q0 : ¬ (X : Int) < 0 := by omega
      have q1 : ¬ (Y : Int) ≤ (X : Int) := by omega
      have q2 : ¬ (N : Int) < (Y : Int) := by omega
      have i5 : ∀ w1, Below w.heap.size w w1 → Calls Tryz.prog 139 #[.int .i64 (N : Int), .func (.func 175) #[] #[.pointer (some ⟨w1.heap.size, 0, none⟩)]] (w1.alloc (.cells #[.int .i64 (X : Int), .int .i64 (Y : Int)] 50)) fun r w' => ∃ v, r = .returned v ∧ SpP w 0 (Tree.barF N 0 N (Tree.shr X Y)) (.returned (.tuple #[v, .int .i64 0])) w' := fun w1 hw1 => by
        have hb2 := (Below.refl _ w1).alloc (Nat.le_refl _) (.cells #[.int .i64 (X : Int), .int .i64 (Y : Int)] 50)
        have h5 := without_any N 175 #[.pointer (some ⟨w1.heap.size, 0, none⟩)] (Tree.shr X Y) (fun k => k < w.heap.size ∨ k = w1.heap.size) (by omega) (by omega) _
          (cnts_spanned X Y N w.heap.size _ w1.heap.size (by omega) (by omega) (by omega) (SpI.new w1 X Y)) (fun b e => by unfold Tree.shr; omega)
          (fun k hk => by rw [size_alloc]; have := hw1.size; omega)
        refine h5.mono ?_
        rintro r w3 ⟨hb3, v, rfl, hO, hk⟩
        have hb := hb2.trans (hb3.mono hb2.size)
        refine ⟨v, rfl, hw1.trans (hb.mono hw1.size), v, rfl, hO, fun k hk' => ?_⟩
        have := hk k hk'
        rw [size_alloc] at this
        have := hw1.size
        omega
      have i5 := i5 _ B0
      rw [size_alloc] at i5
      clear h1 h2
      go_enter Tryz.func90, Tryz.ntmps90
      go_wp2_with (first
        | (go_at_call 99; refine (i1 _).mono ?_; rintro r w' ⟨rfl, rfl⟩)
        | (go_at_call 140; refine (spanned_any _ _ _).mono ?_; rintro r w' ⟨rfl, rfl⟩)
        | (go_at_call 139; (with_reducible refine i5.mono ?_); rintro r w5 ⟨v, rfl, hP⟩))
      go_ret2
      exact hP
    · have eE : runE n x y = 80 := by unfold runE; rw [if_pos h1, if_neg h2]
      have eL : runL n x y = [] := by unfold runL; rw [if_neg (by rw [eE]; omega)]
      rw [eE, eL]
      clear eE eL
      by_cases q0 : x < 0
      · clear h1 h2
        go_enter Tryz.func90, Tryz.ntmps90
        go_wp2_with (go_at_call 99; refine (i1 _).mono ?_; rintro r w' ⟨rfl, rfl⟩)
        go_ret2
        exact SpP.bad B0
      · by_cases q1 : y ≤ x
        · clear h1 h2
          go_enter Tryz.func90, Tryz.ntmps90
          go_wp2_with (go_at_call 99; refine (i1 _).mono ?_; rintro r w' ⟨rfl, rfl⟩)
          go_ret2
          exact SpP.bad B0
        · have q2 : n < y := by omega
          clear h1 h2
          go_enter Tryz.func90, Tryz.ntmps90
          go_wp2_with (go_at_call 99; refine (i1 _).mono ?_; rintro r w' ⟨rfl, rfl⟩)
          go_ret2
          exact SpP.bad B0
  · have i1 := fun w' => isSize_is n false (by simpa using h1) w'
    have eE : runE n x y = 81 := by unfold runE; rw [if_neg h1]
    have eL : runL n x y = [] := by unfold runL; rw [if_neg (by rw [eE]; omega)]
    rw [eE, eL]
    clear eE eL
    go_enter Tryz.func90, Tryz.ntmps90
    go_wp2_with (go_at_call 99; refine (i1 _).mono ?_; rintro r w' ⟨rfl, rfl⟩)
    go_ret2
    exact SpP.bad B0
end Go.Proofs.YtblmaokonhdjaaaGreatDoor
