import Derived.Test.YtenklmjeeejfdaaGreatDoorPkI1
import Derived.Laws.StructEq
import Derived.RangeFuncBox
import Derived.Test.YtenklmjeeejfdaaGreatDoorPkO2
namespace Go.Proofs.YtenklmjeeejfdaaGreatDoor
open Go.RowKit Go.Shelf
attribute [local go_sem] Oper.semAt_some
set_option maxRecDepth 100000 in
theorem way_any (n i : Int) (w : World) : Calls Tryz.prog 102 #[.int .i64 n, .int .i64 i] w fun r w' =>
    r = .returned (.func (.func 123) #[] #[.pointer (some ⟨w.heap.size, 0, none⟩), .pointer (some ⟨w.heap.size + 1, 0, none⟩)]) ∧ w' = (w.alloc (.cells #[.int .i64 n] 3)).alloc (.cells #[.int .i64 i] 3) := by
  go_enter Tryz.func102, Tryz.ntmps102
  go_wp2
  go_ret
  exact ⟨rfl, rfl⟩
abbrev enS (s : Nat × Nat) : Array Value := #[sg s.1 s.2]
set_option maxRecDepth 100000 in
set_option maxHeartbeats 4000000 in
theorem way_iter (n i p q : Nat) (hn : 1 ≤ n) (hn2 : n ≤ 1099511627776) (hi : i < n) (w : World) (hp : w.cell? ⟨p, 0, none⟩ = some (.int .i64 (n : Int))) (hq : w.cell? ⟨q, 0, none⟩ = some (.int .i64 (i : Int))) :
    IterC Tryz.prog 123 #[.pointer (some ⟨p, 0, none⟩), .pointer (some ⟨q, 0, none⟩)] enS (Tree.wayF n 0 n i) (fun k => k = p ∨ k = q) (fun _ => False) w := by
  intro N l J Jx F W fJ fX hW hFC hY h0
  have hpl : p < w.heap.size := World.block_lt_of_cell? w ⟨p, 0, none⟩ hp
  have hql : q < w.heap.size := World.block_lt_of_cell? w ⟨q, 0, none⟩ hq
  have hp1 : W.cell? ⟨p, 0, none⟩ = some (.int .i64 (n : Int)) := (hW.cell (p := ⟨p, 0, none⟩) hpl).trans hp
  have hq1 : W.cell? ⟨q, 0, none⟩ = some (.int .i64 (i : Int)) := (hW.cell (p := ⟨q, 0, none⟩) hql).trans hq
  have hs := hW.size
  refine callsIn_of_wp Tryz.func123 rfl trivial ?_ rfl
  simp only [Tryz.ntmps123, List.size_toArray, List.length_cons, List.length_nil, Nat.reduceAdd, Nat.reduceSub, Array.replicate_succ, Array.replicate_zero, List.push_toArray, List.append_toArray, List.nil_append, List.cons_append]
  gi_wp2
  have S0 := SpI.new W 0 n
  have hFl := fJ.lt _ _ _ h0
  obtain ⟨g, hg⟩ : ∃ g, Hid (W.heap.size = g) := ⟨_, rfl⟩
  have K0 : Hid (Keep F W (W.alloc (.cells #[.int .i64 0, .int .i64 (n : Int)] 56))) := Keep.ofBelow ((Below.refl _ _).alloc (Nat.le_refl _) _)
  have J0 := hid (fJ.keep _ _ _ _ (fun _ => False) h0 (Keep.ofBelow ((Below.refl _ W).alloc (Nat.le_refl _) (.cells #[.int .i64 0, .int .i64 (n : Int)] 56))) (fun _ _ e => e))
  rw [hg.out] at S0
  rw [hg.out]
  have S0 := hid S0
  gi_loopw [7] (fun _ wr => ∃ (pre : List (Nat × Nat)) (f b e : Nat) (F' : Nat → Prop), Hid (Tree.wayF n 0 n i = pre ++ Tree.wayF f b (e - b) i) ∧ Hid (e - b ≤ f) ∧ b ≤ i ∧ i < e ∧ e ≤ n ∧ Hid (SpI wr g b e) ∧ Hid (J F' pre wr) ∧ Hid (Keep F W wr) ∧ Hid (∀ k, F' k → F k ∨ g < k)) (fun _ wr => memN wr g 1 - memN wr g 0)
  case atStart =>
    exact ⟨[], n, 0, n, F, rfl, Nat.le_refl _, by omega, hi, Nat.le_refl _, S0, J0, K0, fun k hk => .inl hk⟩
  case round =>
    obtain ⟨pre, f, b, e, F', hx, hf, hbi, hie, hen, hS, hJ, hK, hN⟩ := hrel
    clear S0 J0 K0
    have hng : ¬ F' g := fun h => by
      rcases hN.out g h with h | h
      · have := hFl g h; have := hg.out; omega
      · omega
    obtain ⟨rest, hr⟩ : ∃ rest, Hid (Tree.wayF f b (e - b) i = (b, e) :: rest) := by
      have := hf.out
      obtain ⟨f', rfl⟩ : ∃ f', f = f' + 1 := ⟨f - 1, by omega⟩
      refine ⟨(Tree.wayF (f' + 1) b (e - b) i).tail, ?_⟩
      unfold Hid
      rw [Tree.wayF, show b + (e - b) = e by omega]; rfl
    have hYy := hY F' pre (b, e) rest wr hJ.out (by rw [hx.out, hr.out])
    obtain ⟨fn, tmps, assign, body, hy, hR⟩ := hYy
    have c0 := hS.out.c0
    have c1 := hS.out.c1
    gi_wp2
    refine ⟨fun h => (by cases h), hR.mono ?_⟩
    clear hR hy c0 c1
    rintro e' W3 ⟨F3, hm, hh⟩
    have hn3 : Hid (∀ k, F3 k → F k ∨ g < k) := fun k hk => by
      rcases hm.new k hk with h | h
      · exact hN.out k h
      · have := lt_of_heap hS.out; exact .inr (by omega)
    have hng3 : ¬ F3 g := fun h => by
      rcases hn3.out g h with h | h
      · have := hFl g h; have := hg.out; omega
      · omega
    have hk3 : Hid (Keep F W W3) := hK.out.trans hm.keep fun k hk hf => by
      rcases hN.out k hf with h | h
      · exact h
      · have := hg.out; omega
    have hS3 := hS.out.keep hm.keep hng
    have c0 := hS3.c0
    have c1 := hS3.c1
    have hq3 : W3.cell? ⟨q, 0, none⟩ = some (.int .i64 (i : Int)) := by
      have hb := hk3.out.block q (by omega) (fun h => hFC q h (.inr rfl))
      exact (World.cell?_of_block (a := ⟨q, 0, none⟩) hb).trans hq1
    rcases hh with ⟨rfl, hJ3⟩ | ⟨rfl, hX3⟩
    · have i1 := slen_nat b e (by omega) (by omega) W3
      by_cases h1 : 1 < e - b
      · have h1' : (1 : Int) < ((e - b : Nat) : Int) := by omega
        gi_wp2
        refine ⟨trivial, fun h => (by cases h), (callsIn_wide.2 i1).mono ?_⟩
        clear i1 c0 c1
        rintro r W4 ⟨rfl, hb4⟩
        have hS4 := hS3.below hb4
        have c0 := hS4.c0
        have c1 := hS4.c1
        have hq4 : W4.cell? ⟨q, 0, none⟩ = some (.int .i64 (i : Int)) := (hb4.cell (p := ⟨q, 0, none⟩) (World.block_lt_of_cell? W3 ⟨q, 0, none⟩ hq3)).trans hq3
        have i2 := toward_any b e i (by omega) (by omega) W4
        gi_wp2
        refine ⟨trivial, fun h => (by cases h), (callsIn_wide.2 i2).mono ?_⟩
        clear i2 c0 c1
        rintro r W5 ⟨rfl, hb5⟩
        have hS5 := hS4.below hb5
        have c0 := hS5.c0
        have c1 := hS5.c1
        have f0 := hS5.f0
        have f1 := hS5.f1
        have hs2 : Hid ((Tree.twd i (b, e)).1 ≤ i ∧ i < (Tree.twd i (b, e)).2 ∧ b ≤ (Tree.twd i (b, e)).1 ∧ (Tree.twd i (b, e)).2 ≤ e ∧ (Tree.twd i (b, e)).2 - (Tree.twd i (b, e)).1 < e - b) := by
          have s1 := Tree.sp_lt (n := e - b) (by omega)
          have s2 := Tree.sp_pos (n := e - b) (by omega)
          unfold Hid Tree.twd
          by_cases h : i < b + Tree.sp (e - b)
          · simp only [if_pos h]; omega
          · simp only [if_neg h]; omega
        have hr2 : Hid (rest = Tree.wayF (f - 1) (Tree.twd i (b, e)).1 ((Tree.twd i (b, e)).2 - (Tree.twd i (b, e)).1) i) := by
          have hf := hf.out
          have hr := hr.out
          obtain ⟨f', rfl⟩ : ∃ f', f = f' + 1 := ⟨f - 1, by omega⟩
          unfold Hid
          rw [Nat.add_sub_cancel]
          unfold Tree.twd
          by_cases h : i < b + Tree.sp (e - b)
          · rw [Tree.wayF_left (by omega) h] at hr
            simp only [if_pos h]
            rw [show b + Tree.sp (e - b) - b = Tree.sp (e - b) by omega]
            injection hr with _ hr
            exact hr.symm
          · rw [Tree.wayF_right (by omega) h] at hr
            simp only [if_neg h]
            rw [show e - (b + Tree.sp (e - b)) = e - b - Tree.sp (e - b) by omega]
            injection hr with _ hr
            exact hr.symm
        generalize (Tree.twd i (b, e)).1 = b2 at *
        generalize (Tree.twd i (b, e)).2 = e2 at *
        gi_wp2
        go_roundw
        case rel =>
          refine ⟨pre ++ [(b, e)], f - 1, b2, e2, F3, ?_, ?_, hs2.out.1, hs2.out.2.1, by have := hs2.out; omega, hS5.two _ _, ?_, ?_, hn3⟩
          · unfold Hid; rw [hx.out, hr.out, hr2.out, List.append_assoc]; rfl
          · unfold Hid; have := hs2.out; have := hf.out; omega
          · exact fJ.keep _ _ _ _ (fun k => k = g) (fJ.keep _ _ _ _ (fun _ => False) hJ3 (Keep.ofBelow (hb4.trans (hb5.mono hb4.size))) (fun _ _ h => h)) ((Keep.ofSet (S := fun k => k = g) _ g 0 _ rfl).trans (Keep.ofSet (S := fun k => k = g) _ g 1 _ rfl) fun _ _ h => h) (fun k hk h => hng3 (h ▸ hk))
          · exact ((hk3.out.trans (Keep.ofBelow (S := F) (hb4.trans (hb5.mono hb4.size))) fun _ _ h => h).trans (Keep.ofSet (S := fun k => k = g) _ g 0 _ rfl) fun k hk h => by have := hg.out; omega).trans (Keep.ofSet (S := fun k => k = g) _ g 1 _ rfl) fun k hk h => by have := hg.out; omega
        case measure =>
          have h5 := (hS5.two (b2 : Int) (e2 : Int))
          have e1 : memN ((W5.setCell ⟨g, 0, none⟩ (.int .i64 (b2 : Int))).setCell ⟨g, 1, none⟩ (.int .i64 (e2 : Int))) g 1 = e2 := by unfold memN; rw [h5.c1]; exact Int.toNat_natCast _
          have e0 : memN ((W5.setCell ⟨g, 0, none⟩ (.int .i64 (b2 : Int))).setCell ⟨g, 1, none⟩ (.int .i64 (e2 : Int))) g 0 = b2 := by unfold memN; rw [h5.c0]; exact Int.toNat_natCast _
          have d1 : memN wr g 1 = e := by unfold memN; rw [hS.out.c1]; exact Int.toNat_natCast _
          have d0 : memN wr g 0 = b := by unfold memN; rw [hS.out.c0]; exact Int.toNat_natCast _
          rw [e1, e0, d1, d0]
          exact hs2.out.2.2.2.2
      · have h1' : ¬ (1 : Int) < ((e - b : Nat) : Int) := by omega
        gi_wp2
        refine ⟨trivial, fun h => (by cases h), (callsIn_wide.2 i1).mono ?_⟩
        clear i1 c0 c1
        rintro r W4 ⟨rfl, hb4⟩
        gi_wp2
        go_end0
        refine ⟨⟨_, rfl⟩, F3, ?_, fun k hk => ?_, .inl ?_⟩
        · exact (hk3.out.trans (Keep.ofBelow (S := F) hb4) fun _ _ h => h).mono fun k _ h => .inl h
        · rcases hn3.out k hk with h | h
          · exact .inl h
          · exact .inr (by have := hg.out; omega)
        · have e1 : rest = [] := by
            have hf := hf.out
            have hr := hr.out
            obtain ⟨f', rfl⟩ : ∃ f', f = f' + 1 := ⟨f - 1, by omega⟩
            rw [Tree.wayF_one (by omega)] at hr
            injection hr with _ hr
            exact hr.symm
          rw [hx.out, hr.out, e1]
          exact fJ.keep _ _ _ _ (fun _ => False) hJ3 (Keep.ofBelow hb4) (fun _ _ h => h)
    · gi_wp2
      refine ⟨trivial, ?_⟩
      gi_wp2
      go_end0
      refine ⟨⟨_, rfl⟩, F3, hk3.out.mono fun k _ h => .inl h, fun k hk => ?_, .inr ⟨pre ++ [(b, e)], ⟨rest, ?_⟩, hX3⟩⟩
      · rcases hn3.out k hk with h | h
        · exact .inl h
        · exact .inr (by have := hg.out; omega)
      · rw [hx.out, hr.out, List.append_assoc]; rfl
end Go.Proofs.YtenklmjeeejfdaaGreatDoor

namespace Go.Proofs.YtenklmjeeejfdaaGreatDoor
open Go.RowKit
theorem spU : Tryz.prog.underlying 56 = some (.struct (Tryz.prog.fieldsOf 56)) := by kernel_rfl
theorem spP : Tryz.prog.stoodInHeld 56 = false := by kernel_rfl
theorem spF : (Tryz.prog.fieldsOf 56).toList.map (fun f => (f.name, f.type, f.offset)) = [("Begin", 3, 0), ("End", 3, 1)] := by kernel_rfl
theorem two_fields {fs : List Field} {a b : String × TypeId × Nat} (h : fs.map (fun f => (f.name, f.type, f.offset)) = [a, b]) : ∃ f g, fs = [f, g] ∧ f.name = a.1 ∧ f.type = a.2.1 ∧ f.offset = a.2.2 ∧ g.name = b.1 ∧ g.type = b.2.1 ∧ g.offset = b.2.2 := by
  match fs, h with
  | [f, g], h =>
    simp only [List.map_cons, List.map_nil, List.cons.injEq, and_true] at h
    obtain ⟨h1, h2⟩ := h
    exact ⟨f, g, rfl, by rw [← h1], by rw [← h1], by rw [← h1], by rw [← h2], by rw [← h2], by rw [← h2]⟩
theorem part0 (a b : Value) (w : World) : (part 3 #[a, b] 0).run Tryz.prog w = .ok a w := by kernel_rfl
theorem part1 (a b : Value) (w : World) : (part 3 #[a, b] 1).run Tryz.prog w = .ok b w := by kernel_rfl
theorem eq_sp (p f q e : Int) (w : World) : (binOp .eql 56 (.agg #[.int .i64 p, .int .i64 f]) (.agg #[.int .i64 q, .int .i64 e])).run Tryz.prog w = .ok (.bool (p == q && f == e)) w := by
  rw [run_eql_struct, run_equalIn_agg w 9999 _ _ _ spU spP]
  obtain ⟨f1, f2, hf, a1, a2, a3, b1, b2, b3⟩ := two_fields spF
  rw [hf]
  simp only [Op.eqFields, a1, a2, a3, b1, b2, b3]
  simp only [Sem.run_ite, Sem.run_bind, part0, part1, Result.andThen_ok, run_equalIn_int w 9998 3 .i64 .i64 _ _ Tryz.underlying3]
  generalize (p == q) = u
  generalize (f == e) = v
  cases u <;> cases v <;> simp
end Go.Proofs.YtenklmjeeejfdaaGreatDoor

namespace Go.Proofs.YtenklmjeeejfdaaGreatDoor
open Go.RowKit Go.Shelf
attribute [local go_sem] Oper.semAt_some
theorem _root_.Go.Boxed.keepF {W W' : World} {B : Nat} {t : TypeId} {v : Value} {S : Nat → Prop} (h : Boxed W B t v) (hk : Keep S W W') (hs : ¬ S B) : Boxed W' B t v := (hk.block B h.lt hs).trans h
theorem _root_.Go.Boxed.belowF {W W' : World} {B : Nat} {t : TypeId} {v : Value} (h : Boxed W B t v) (hk : Below W.heap.size W W') : Boxed W' B t v := (hk.block B h.lt).trans h
theorem Mvs.alloc (F : Nat → Prop) (W : World) (o : Obj) : Mvs F W (W.alloc o) (fun k => F k ∨ k = W.heap.size) :=
  ⟨Keep.ofBelow ((Below.refl _ _).alloc (Nat.le_refl _) _), fun k hk => by rcases hk with h | h; exact .inl h; exact .inr (by omega)⟩
theorem Keep.belowOf {S : Nat → Prop} {B : Nat} {w w' : World} (h : Keep S w w') (hB : B ≤ w.heap.size) (hS : ∀ k, S k → B ≤ k) : Below B w w' :=
  ⟨h.os, h.tape, h.output, h.size, fun k hk => h.block k (by omega) fun e => by have := hS k e; omega⟩
def insB (n b e : Int) : Bool := decide (1 ≤ n ∧ n ≤ 1099511627776 ∧ 0 ≤ b ∧ b < n ∧ 0 ≤ e) && Tree.insF n.toNat 0 n.toNat b.toNat e.toNat
theorem insB_way {n b : Nat} {e : Int} (hn : 1 ≤ n) (hn2 : n ≤ 1099511627776) (hb : b < n) : insB n b e = true ↔ ∃ s ∈ Tree.wayF n 0 n b, (s.1 : Int) = b ∧ (s.2 : Int) = e := by
  unfold insB
  rw [Bool.and_eq_true, decide_eq_true_eq, Int.toNat_natCast, Int.toNat_natCast, Tree.wayF_ins n 0 n b e.toNat (Nat.le_refl _) (Nat.zero_le _) (by omega)]
  constructor
  · rintro ⟨h1, h2⟩
    exact ⟨_, h2, rfl, by show ((e.toNat : Nat) : Int) = e; omega⟩
  · rintro ⟨⟨x, y⟩, h1, h2, h3⟩
    have h2 : (x : Int) = b := h2
    have h3 : (y : Int) = e := h3
    obtain rfl : x = b := by omega
    subst h3
    exact ⟨by omega, by rw [Int.toNat_natCast]; exact h1⟩
def Nev (b e : Int) (l : List (Nat × Nat)) : Prop := ∀ s ∈ l, ¬ ((s.1 : Int) = b ∧ (s.2 : Int) = e)
def Onc (b e : Int) (l : List (Nat × Nat)) : Prop := ∃ s ∈ l, ((s.1 : Int) = b ∧ (s.2 : Int) = e)
theorem Nev.snoc {b e : Int} {l : List (Nat × Nat)} {x y : Nat} (h : Nev b e l) (hq : ¬ ((x : Int) = b ∧ (y : Int) = e)) : Nev b e (l ++ [(x, y)]) := fun s hs => by
  rcases List.mem_append.1 hs with h' | h'
  · exact h s h'
  · obtain rfl : s = (x, y) := by simpa using h'
    exact hq
theorem Onc.snoc {b e : Int} {l : List (Nat × Nat)} {x y : Nat} (hq : (x : Int) = b ∧ (y : Int) = e) : Onc b e (l ++ [(x, y)]) := ⟨(x, y), List.mem_append.2 (.inr (by simp)), hq⟩
set_option maxRecDepth 100000 in
set_option maxHeartbeats 4000000 in
theorem inside_any (n b e : Int) (w : World) : Calls Tryz.prog 108 #[.int .i64 n, sg b e] w fun r w' => r = .returned (.bool (insB n b e)) ∧ Below w.heap.size w w' := by
  refine (callsIn_wide (n := 9)).1 ?_
  have S0 := SpI.new w b e
  have c0 := S0.c0
  have c1 := S0.c1
  refine callsIn_of_wp_marks Tryz.func108 rfl trivial ?_ rfl
  simp only [Tryz.ntmps108, List.size_toArray, List.length_cons, List.length_nil, Nat.reduceAdd, Nat.reduceSub, Array.replicate_succ, Array.replicate_zero, List.push_toArray, List.append_toArray, List.nil_append, List.cons_append]
  by_cases hn : 1 ≤ n ∧ n ≤ 1099511627776
  · have i1 := fun w' => isSize_is n true (by simpa using hn) w'
    by_cases hb : 0 ≤ b ∧ b < n
    · have i2 := fun w' => isLeaf8_is n b true (by simpa using hb) w'
      obtain ⟨n, rfl⟩ := Int.eq_ofNat_of_zero_le (show 0 ≤ n by omega)
      obtain ⟨b, rfl⟩ := Int.eq_ofNat_of_zero_le hb.1
      gi_wp2
      refine ⟨trivial, (callsIn_wide.2 (i1 _)).mono ?_⟩
      rintro r w1 ⟨rfl, h1⟩
      have h1 := h1.symm
      subst h1
      gi_wp2
      refine ⟨trivial, (callsIn_wide.2 (i2 _)).mono ?_⟩
      rintro r w1 ⟨rfl, h1⟩
      have h1 := h1.symm
      subst h1
      gi_wp2
      refine ⟨trivial, (callsIn_wide.2 (way_any _ _ _)).mono ?_⟩
      rintro r w1 ⟨rfl, h1⟩
      have h1 := h1.symm
      subst h1
      gi_wp2
      clear i1 i2 c0 c1
      obtain ⟨W4, hW4⟩ : ∃ W4, Hid (((((w.alloc (.cells #[.int .i64 (b : Int), .int .i64 e] 56)).alloc (.cells #[.bool false] 4)).alloc (.cells #[.int .i64 (n : Int)] 3)).alloc (.cells #[.int .i64 (b : Int)] 3)) = W4) := ⟨_, rfl⟩
      rw [hW4.out]
      have z4 : W4.heap.size = w.heap.size + 4 := by rw [← hW4.out]; simp
      have B4 : Below w.heap.size w W4 := by rw [← hW4.out]; exact ((((Below.refl _ w).alloc (Nat.le_refl _) _).alloc (by rw [size_alloc]; omega) _).alloc (by rw [size_alloc, size_alloc]; omega) _).alloc (by rw [size_alloc, size_alloc, size_alloc]; omega) _
      have R0 : SpI W4 w.heap.size b e := by rw [← hW4.out]; exact ((S0.below ((Below.refl _ _).alloc (Nat.le_refl _) _)).below ((Below.refl _ _).alloc (Nat.le_refl _) _)).below ((Below.refl _ _).alloc (Nat.le_refl _) _)
      have R1 : Boxed W4 (w.heap.size + 1) 4 (.bool false) := by
        rw [← hW4.out]
        have := Boxed.new (w.alloc (.cells #[.int .i64 (b : Int), .int .i64 e] 56)) 4 (.bool false)
        rw [size_alloc] at this
        exact (this.alloc _).alloc _
      have R2 : Boxed W4 (w.heap.size + 1 + 1) 3 (.int .i64 (n : Int)) := by
        rw [← hW4.out]
        have := Boxed.new ((w.alloc (.cells #[.int .i64 (b : Int), .int .i64 e] 56)).alloc (.cells #[.bool false] 4)) 3 (.int .i64 (n : Int))
        rw [size_alloc, size_alloc] at this
        exact this.alloc _
      have R3 : Boxed W4 (w.heap.size + 1 + 1 + 1) 3 (.int .i64 (b : Int)) := by
        rw [← hW4.out]
        have := Boxed.new (((w.alloc (.cells #[.int .i64 (b : Int), .int .i64 e] 56)).alloc (.cells #[.bool false] 4)).alloc (.cells #[.int .i64 (n : Int)] 3)) 3 (.int .i64 (b : Int))
        rw [size_alloc, size_alloc, size_alloc] at this
        exact this
      clear hW4 S0
      obtain ⟨F0, hF0⟩ : ∃ F0 : Nat → Prop, Hid (F0 = fun k => k = w.heap.size ∨ k = w.heap.size + 1) := ⟨_, rfl⟩
      refine range_foot (n := 9) (gf := 123) (lb := #[.pointer (some ⟨w.heap.size + 1 + 1, 0, none⟩), .pointer (some ⟨w.heap.size + 1 + 1 + 1, 0, none⟩)]) rfl (enters_of Tryz.func123 (by kernel_rfl) rfl)
        (way_iter n b _ _ (by omega) (by omega) (by omega) W4 R2.cell R3.cell) (fun _ => rfl)
        (fun F pre W => Hid (F = F0) ∧ SpI W w.heap.size b e ∧ Boxed W (w.heap.size + 1) 4 (.bool false) ∧ Nev b e pre)
        (fun c F pre W => Hid (c = .ret) ∧ Hid (F = F0) ∧ Boxed W (w.heap.size + 1) 4 (.bool true) ∧ Onc b e pre)
        ?fI (fun c => ?fX) F0 ⟨rfl, R0, R1, fun _ h => by cases h⟩ ?dis ?cl
        (fun F pre x a W => ∃ go, F = (fun k => F0 k ∨ k = go) ∧ ¬ F0 go ∧ SpI W go x.1 x.2 ∧ SpI W w.heap.size b e ∧ Boxed W (w.heap.size + 1) 4 (.bool false) ∧ Nev b e pre ∧ a = { tmps := #[.int .i64 (n : Int), sg b e, undef, .pointer (some ⟨w.heap.size, 0, none⟩), .pointer (some ⟨w.heap.size + 1, 0, none⟩), .pointer (some ⟨go, 0, none⟩), .int .i64 (n : Int), .bool true, .bool false, .bool false, .int .i64 (n : Int), .pointer (some ⟨w.heap.size, 0, none⟩), .int .i64 (b : Int), .bool true, .bool false, .bool false, .int .i64 (n : Int), .pointer (some ⟨w.heap.size, 0, none⟩), .int .i64 (b : Int), .func (.func 123) #[] #[.pointer (some ⟨w.heap.size + 1 + 1, 0, none⟩), .pointer (some ⟨w.heap.size + 1 + 1 + 1, 0, none⟩)], sg x.1 x.2, undef, undef, undef], defers := [] })
        ?fA ?assign ?body ?done ?stop
      case fI =>
        have hF0 := hF0.out; subst hF0
        refine ⟨?_, ?_⟩
        · rintro F pre W W' S ⟨rfl, h1, h2, h3⟩ hk hs
          exact ⟨rfl, h1.keep hk (hs _ (.inl rfl)), h2.keepF hk (hs _ (.inr rfl)), h3⟩
        · rintro F pre W ⟨rfl, h1, h2, h3⟩ k (rfl | rfl)
          · exact lt_of_heap h1
          · exact h2.lt
      case fX =>
        have hF0 := hF0.out; subst hF0
        refine ⟨?_, ?_⟩
        · rintro F pre W W' S ⟨h0, rfl, h2, h3⟩ hk hs
          exact ⟨h0, rfl, h2.keepF hk (hs _ (.inr rfl)), h3⟩
        · rintro F pre W ⟨h0, rfl, h2, h3⟩ k (rfl | rfl)
          · have := h2.lt; omega
          · exact h2.lt
      case dis =>
        have hF0 := hF0.out; subst hF0
        rintro k (rfl | rfl) (h | h) <;> omega
      case cl => rintro k (rfl | rfl) <;> omega
      case fA =>
        have hF0 := hF0.out; subst hF0
        rintro x a
        refine ⟨?_, ?_⟩
        · rintro F pre W W' S ⟨go, rfl, h1, h2, h3, h4, h5, h6⟩ hk hs
          exact ⟨go, rfl, h1, h2.keep hk (hs _ (.inr rfl)), h3.keep hk (hs _ (.inl (.inl rfl))), h4.keepF hk (hs _ (.inl (.inr rfl))), h5, h6⟩
        · rintro F pre W ⟨go, rfl, h1, h2, h3, h4, h5, h6⟩ k ((rfl | rfl) | rfl)
          · exact lt_of_heap h3
          · exact h4.lt
          · exact lt_of_heap h2
      case assign =>
        rintro l F pre x rest W ⟨rfl, h1, h2, h3⟩ hx
        have hlt := fun k (hk : F k) => show k < W.heap.size by
          have hF0 := hF0.out; subst hF0
          rcases hk with rfl | rfl
          · exact lt_of_heap h1
          · exact h2.lt
        gi_wp2
        have hb := (Below.refl _ W).alloc (Nat.le_refl _) (.cells #[.int .i64 (x.1 : Int), .int .i64 (x.2 : Int)] 56)
        exact ⟨_, Mvs.alloc F W _, W.heap.size, rfl, fun h => by have := hlt _ h; omega, SpI.new W x.1 x.2, h1.below hb, h2.belowF hb, h3, rfl⟩
      case body =>
        rintro l F pre x rest a W ⟨go, rfl, h1, h2, h3, h4, h5, rfl⟩ hx
        obtain ⟨x, y⟩ := x
        have c0 := h2.c0
        have c1 := h2.c1
        have d0 := h3.c0
        have d1 := h3.c1
        have r0 := h4.cell
        have r1 := h4.frozen
        have heq := fun w' => eq_sp (x : Int) (y : Int) (b : Int) e w'
        by_cases hq : (x : Int) = b ∧ (y : Int) = e
        · have hq' : ((x : Int) == (b : Int) && (y : Int) == e) = true := by simp [hq.1, hq.2]
          rw [hq'] at heq
          gi_wp2
          refine ⟨F0, ⟨Keep.ofSet _ _ 0 _ (.inl (by rw [hF0.out]; exact .inr rfl)), fun k hk => .inl (.inl hk)⟩, rfl, rfl, h4.set _, Onc.snoc hq⟩
        · have hq' : ((x : Int) == (b : Int) && (y : Int) == e) = false := by simpa using hq
          rw [hq'] at heq
          gi_wp2
          refine ⟨F0, ⟨Keep.refl _ _, fun k hk => .inl (.inl hk)⟩, rfl, h3, h4, h5.snoc hq⟩
      case done =>
        rintro D F W ⟨rfl, h1, h2, h3⟩ ha
        have r0 := h2.cell
        have r1 := h2.frozen
        gi_wp2
        have hm : (W.setCell ⟨w.heap.size + 1, 0, none⟩ (.bool false)).heap[D]? = some (.deferred (some [])) := (Below.heap_setCell W _ _ D (by show D ≠ w.heap.size + 1; have := ha.hi; omega)).trans ha.mark
        refine ⟨by simp, .inl ⟨_, _, rfl, run_takeDeferred hm, ?_⟩⟩
        have hc5 := ((h2.set (.bool false)).keepF (Keep.ofPut (S := fun k => k = D) _ D (.deferred none) rfl) (by have := ha.hi; omega)).cell
        have er : insB n b e = false := by
          cases hc : insB n b e with
          | false => rfl
          | true =>
            obtain ⟨s, hs, h⟩ := (insB_way (by omega) (by omega) (by omega)).1 hc
            exact absurd h (h3 s hs)
        refine ⟨.bool false, ?_, by rw [er], ?_⟩
        · simp [results, Tryz.f108, go_sem, hc5]
        · have k1 : Keep (fun k => w.heap.size ≤ k) W4 W := ha.keep.mono fun k _ h => by rw [hF0.out] at h; rcases h with (h | h) | h <;> first | omega | exact h.elim
          have k2 := (k1.trans (Keep.ofSet (S := fun k => w.heap.size ≤ k) W (w.heap.size + 1) 0 (.bool false) (by omega)) fun _ _ h => h).trans (Keep.ofPut (S := fun k => w.heap.size ≤ k) _ D (.deferred none) (by have := ha.hi; omega)) fun _ _ h => h
          exact B4.trans (k2.belowOf (by omega) fun _ h => h)
      case stop =>
        rintro D c F pre W hp ⟨rfl, rfl, h2, h3⟩ ha
        gi_wp2
        refine ⟨by simp, .inl ⟨_, _, rfl, run_takeDeferred ha.mark, ?_⟩⟩
        have hc5 := (h2.keepF (Keep.ofPut (S := fun k => k = D) _ D (.deferred none) rfl) (by have := ha.hi; omega)).cell
        have er : insB n b e = true := by
          obtain ⟨s, hs, h⟩ := h3
          exact (insB_way (by omega) (by omega) (by omega)).2 ⟨s, hp.subset hs, h⟩
        refine ⟨.bool true, ?_, by rw [er], ?_⟩
        · simp [results, Tryz.f108, go_sem, hc5]
        · have k1 : Keep (fun k => w.heap.size ≤ k) W4 W := ha.keep.mono fun k _ h => by rw [hF0.out] at h; rcases h with (h | h) | h <;> first | omega | exact h.elim
          have k2 := k1.trans (Keep.ofPut (S := fun k => w.heap.size ≤ k) W D (.deferred none) (by have := ha.hi; omega)) fun _ _ h => h
          exact B4.trans (k2.belowOf (by omega) fun _ h => h)
    · have i2 := fun w' => isLeaf8_is n b false (by simpa using hb) w'
      gi_wp2
      refine ⟨trivial, (callsIn_wide.2 (i1 _)).mono ?_⟩
      rintro r w1 ⟨rfl, h1⟩
      have h1 := h1.symm
      subst h1
      gi_wp2
      refine ⟨trivial, (callsIn_wide.2 (i2 _)).mono ?_⟩
      rintro r w1 ⟨rfl, h1⟩
      have h1 := h1.symm
      subst h1
      have r0 : ((w.alloc (.cells #[.int .i64 b, .int .i64 e] 56)).alloc (.cells #[.bool false] 4)).cell? ⟨w.heap.size + 1, 0, none⟩ = some (.bool false) := by
        have := (Boxed.new (w.alloc (.cells #[.int .i64 b, .int .i64 e] 56)) 4 (.bool false)).cell
        rwa [size_alloc] at this
      gi_wp2
      have er : insB n b e = false := by unfold insB; rw [decide_eq_false (by omega)]; rfl
      refine ⟨.bool false, ?_, by rw [er], ((Below.refl _ w).alloc (Nat.le_refl _) _).alloc (by rw [size_alloc]; omega) _⟩
      simp [results, Tryz.f108, go_sem, r0]
  · have i1 := fun w' => isSize_is n false (by simpa using hn) w'
    gi_wp2
    refine ⟨trivial, (callsIn_wide.2 (i1 _)).mono ?_⟩
    rintro r w1 ⟨rfl, h1⟩
    have h1 := h1.symm
    subst h1
    have r0 : ((w.alloc (.cells #[.int .i64 b, .int .i64 e] 56)).alloc (.cells #[.bool false] 4)).cell? ⟨w.heap.size + 1, 0, none⟩ = some (.bool false) := by
      have := (Boxed.new (w.alloc (.cells #[.int .i64 b, .int .i64 e] 56)) 4 (.bool false)).cell
      rwa [size_alloc] at this
    gi_wp2
    refine ⟨trivial, ?_⟩
    gi_wp2
    have er : insB n b e = false := by unfold insB; rw [decide_eq_false (by omega)]; rfl
    refine ⟨.bool false, ?_, by rw [er], ((Below.refl _ w).alloc (Nat.le_refl _) _).alloc (by rw [size_alloc]; omega) _⟩
    simp [results, Tryz.f108, go_sem, r0]
end Go.Proofs.YtenklmjeeejfdaaGreatDoor

namespace Go.Proofs.YtenklmjeeejfdaaGreatDoor
open Go.RowKit
theorem run_append_S {P : Program} (w : World) (base : Nat) (t tx ty e : TypeId) (i : TypeInfo) (z : Value) (ht : P.underlying t = some (.slice e)) (hi : P.info? e = some i) (hz : i.zero = some z)
    (hsize : i.size = 1) (hzs : z.cells.size = 1) (v : Value) (cs : List Value) (hown : Own w base v cs) (x : Value) (n : Nat) (news : List Value) (hs : Src P 1 tx x n news w)
    (hbytes : (cs.length + n) * i.bytes ≤ 140737488355328) (h63 : cs.length + n ≤ maxLen) (hbase : base ≤ w.heap.size) (hpos : v = .slice none 0 0 → 0 < n) :
    ∃ v' w', (Builtin.append_ #[t, tx] ty #[v, x]).run P w = .ok v' w' ∧ Own w' base v' (cs ++ news) ∧ w.grownBy w' v.ownBlock ∧ (v'.ownBlock = v.ownBlock ∨ (v'.ownBlock = some w.heap.size ∧ ∀ k, k < w.heap.size → w'.heap[k]? = w.heap[k]?)) := by
  have hn : news.length = n := by simpa using hs.newsLen
  have h63' : cs.length + n ≤ 9223372036854775807 := by simp only [maxLen] at h63; omega
  -- the arm that grows
  have grow : ∀ (b : Option Addr) (old : Nat), old < cs.length + n → v = .slice b cs.length old → (Builtin.firstCells 1 cs.length (.slice b cs.length old)).run P w.drew = .ok cs.toArray w.drew →
      ∃ v' w', (Builtin.append_ #[t, tx] ty #[v, x]).run P w = .ok v' w' ∧ Own w' base v' (cs ++ news) ∧ w.grownBy w' v.ownBlock ∧ (v'.ownBlock = v.ownBlock ∨ (v'.ownBlock = some w.heap.size ∧ ∀ k, k < w.heap.size → w'.heap[k]? = w.heap[k]?)) := by
    intro b old ho hv hold
    have hr := run_append_grow_src (P := P) w t tx ty e i z ht hi hz b cs.length old cs (by rw [hsize]; exact hold) x n news (by rw [hsize]; exact hs) ho (by omega) (growslice_fits ho hbytes)
    have hge := grownCap_ge w (cs.length + n) old e
    have hcm : grownCap w (cs.length + n) old e ≤ maxLen := grownCap_le_maxLen w (cs.length + n) old e h63
    have hnew : (w.drew.alloc (.cells ((cs ++ news).toArray ++ Builtin.zeroCells z.cells (grownCap w (cs.length + n) old e - (cs.length + n))) e)).heap[w.heap.size]? = some (.cells ((cs ++ news).toArray ++ Builtin.zeroCells z.cells (grownCap w (cs.length + n) old e - (cs.length + n))) e (0, 0)) := heap_alloc_new w.drew _
    refine ⟨.slice (some ⟨w.heap.size, 0, none⟩) (cs.length + n) (grownCap w (cs.length + n) old e), w.drew.alloc (.cells ((cs ++ news).toArray ++ Builtin.zeroCells z.cells (grownCap w (cs.length + n) old e - (cs.length + n))) e), by rw [hv]; exact hr, .inr ⟨w.heap.size, grownCap w (cs.length + n) old e, by rw [List.length_append, hn], hbase, by rw [List.length_append, hn]; exact hge, hcm, ?_, ?_, ?_⟩, ⟨rfl, rfl, rfl, by rw [size_alloc]; exact Nat.le_succ w.heap.size, fun k hk _ => Below.heap_alloc w.drew _ k hk⟩, .inr ⟨rfl, fun k hk => Below.heap_alloc w.drew _ k hk⟩⟩
    · intro j u hj
      rw [cell_of_row _ _ _ _ _ _ hnew, Nat.zero_add]
      have hj' : j < (cs ++ news).length := (List.getElem?_eq_some_iff.1 hj).1
      rw [Array.getElem?_append_left (by simpa using hj')]
      simpa using hj
    · refine there_of_row hnew 0 _ ?_
      simp only [Array.size_append, List.size_toArray, size_zeroCells, hzs, List.length_append, hn]
      omega
    · rw [size_alloc]; exact Nat.lt_succ_self _
  rcases hown with ⟨rfl, rfl⟩ | ⟨g, cap, rfl, h1, h2, h3, h4, h5, h6⟩
  · exact grow none 0 (by have := hpos rfl; simp; omega) rfl (run_firstCells_none w.drew 1 0 0 0)
  · by_cases hroom : cs.length + n ≤ cap
    · have hr := run_append_room_src (P := P) w t tx ty e i ht hi g 0 cs.length cap x n news (by rw [hsize]; exact hs) hroom
        (fun j hj => by rw [hsize, Nat.mul_one]; exact by have := (h5 (cs.length + j) (by omega)).1; simpa [Nat.add_assoc] using this)
        (fun j hj => by rw [hsize, Nat.mul_one]; exact by have := (h5 (cs.length + j) (by omega)).2; simpa [Nat.add_assoc] using this)
      rw [hsize, Nat.mul_one, Nat.zero_add] at hr
      have ht' : w.there g cs.length news.length := fun j hj => by have := h5 (cs.length + j) (by omega); simpa using this
      refine ⟨_, _, hr, .inr ⟨g, cap, by rw [List.length_append, hn], h1, by rw [List.length_append, hn]; exact hroom, h3, ?_, World.there_setCells h5 _ _ _, ?_⟩, ?_, .inl rfl⟩
      · intro j u hj
        by_cases hjl : j < cs.length
        · rw [List.getElem?_append_left hjl] at hj
          exact World.rangeAt_setCells_apart h4 g cs.length news (.inr (.inl (by omega))) j u hj
        · rw [List.getElem?_append_right (by omega)] at hj
          have := World.rangeAt_setCells_same w g cs.length news ht' (j - cs.length) u hj
          rwa [show cs.length + (j - cs.length) = 0 + j from by omega] at this
      · have := (But.setCells news cs.length (But.refl g w)).size; omega
      · have hb := But.setCells news cs.length (But.refl g w)
        exact ⟨hb.os, hb.tape, hb.output, hb.size, fun k hk hne => hb.block k hk (fun e => hne (by rw [e]; rfl))⟩
    · refine grow (some ⟨g, 0, none⟩) cap (by omega) rfl ?_
      exact run_firstCells_some w.drew 1 cs.length ⟨g, 0, none⟩ cs.length cap cs (by simp) (fun j u hj => by rw [Addr.add_mid]; exact h4 j u hj)
structure Grow (w w' : World) (v v' : Value) : Prop where
  os : w'.os = w.os
  tape : w'.tape = w.tape
  output : w'.output = w.output
  size : w.heap.size ≤ w'.heap.size
  old : ∀ k, k < w.heap.size → v.ownBlock ≠ some k → w'.heap[k]? = w.heap[k]?
  alt : v'.ownBlock = v.ownBlock ∨ ((∀ k, v'.ownBlock = some k → w.heap.size ≤ k) ∧ ∀ k, k < w.heap.size → w'.heap[k]? = w.heap[k]?)
theorem Grow.keep {w w' : World} {v v' : Value} (h : Grow w w' v v') : Keep (fun k => v.ownBlock = some k) w w' := ⟨h.os, h.tape, h.output, h.size, h.old⟩
theorem append_one (t e : TypeId) (z : Value) (by_ : Nat) (hb24 : by_ ≤ 24) (hu : Tryz.prog.underlying t = some (.slice e)) (hinfo : (Tryz.prog.info? e).map (fun i => (i.zero, i.size, i.bytes)) = some (some z, 1, by_)) (hzs : z.cells.size = 1)
    (w : World) (base : Nat) (v : Value) (cs : List Value) (x : Value) (hx : x.oneCell' = true) (hown : Own w base v cs) (hlen : cs.length ≤ 2000000) (hbase : base ≤ w.heap.size) :
    ∃ v' w', (Builtin.append_ #[t, t] t #[v, .slice (some ⟨w.heap.size, 0, none⟩) 1 1]).run Tryz.prog (w.alloc (.cells #[x] e)) = .ok v' w' ∧ Own w' base v' (cs ++ [x]) ∧ Grow w w' v v' := by
  obtain ⟨i0, hi, hz0, hz1, hz2⟩ := info_parts hinfo
  have hsrc : Src Tryz.prog 1 t (.slice (some ⟨w.heap.size, 0, none⟩) 1 1) 1 [x] (w.alloc (.cells #[x] e)) :=
    Src.ofSlice _ hu ⟨w.heap.size, 0, none⟩ 1 1 [x] (by simp) (fun j u hj => by
      rw [Addr.add_mid, cell_of_row _ _ _ _ _ _ (heap_alloc_new w _), Nat.zero_add]; simpa using hj) (fun u hu => by simp at hu; subst hu; exact hx)
  obtain ⟨v', w', h1, h2, h3, h4⟩ := run_append_S (P := Tryz.prog) (w.alloc (.cells #[x] e)) base t t t e i0 z hu hi hz0 hz1 hzs v cs (hown.alloc _) _ 1 [x] hsrc
    (by rw [hz2]; exact Nat.le_trans (Nat.mul_le_mul (show cs.length + 1 ≤ 2000001 by omega) hb24) (by decide)) (by rw [maxLen]; omega) (by rw [size_alloc]; omega) (fun _ => by omega)
  have hs := h3.size
  rw [size_alloc] at hs
  refine ⟨v', w', h1, h2, ⟨h3.os, h3.tape, h3.output, by omega, fun k hk hne => (h3.block k (by rw [size_alloc]; omega) (Ne.symm hne)).trans (Below.heap_alloc w _ k hk), ?_⟩⟩
  rcases h4 with h4 | ⟨h4, h5⟩
  · exact .inl h4
  · refine .inr ⟨fun k hk => ?_, fun k hk => (h5 k (by rw [size_alloc]; omega)).trans (Below.heap_alloc w _ k hk)⟩
    rw [h4, size_alloc] at hk
    injection hk with hk
    omega
def mrk (i : Nat) : List UInt8 := [109, 97, 114, 107, UInt8.ofNat i, 0]
end Go.Proofs.YtenklmjeeejfdaaGreatDoor

namespace Go.Proofs.YtenklmjeeejfdaaGreatDoor
open Go.RowKit
abbrev Mu := Nat → Option (Nat × Nat)
def En (μ : Mu) (i : Nat) (s : Value) : Prop := s = .slice none 0 0 ∨ ∃ g n c ℓ, s = .slice (some ⟨g, 0, none⟩) n c ∧ n ≤ ℓ ∧ ℓ ≤ 2000000 ∧ μ g = some (i, ℓ)
structure Xs (w : World) (base : Nat) (x : Value) (i ℓ : Nat) (μ : Mu) : Prop where
  own : Own w base x (svs (List.replicate ℓ (mrk i)))
  mrkd : ∀ g, x.ownBlock = some g → μ g = some (i, ℓ)
  en : En μ i x
end Go.Proofs.YtenklmjeeejfdaaGreatDoor

namespace Go.Proofs.YtenklmjeeejfdaaGreatDoor
open Go.RowKit
def OwnM (m : Nat) (w : World) (v : Value) (n : Nat) (cs : List Value) : Prop :=
  (v = .slice none 0 0 ∧ n = 0 ∧ cs = []) ∨
  ∃ g cap, v = .slice (some ⟨g, 0, none⟩) n cap ∧ n ≤ cap ∧ cap ≤ maxLen ∧ cs.length = n * m ∧ w.rangeAt g 0 cs ∧ w.there g 0 (cap * m) ∧ g < w.heap.size
theorem OwnM.nil (m : Nat) (w : World) : OwnM m w (.slice none 0 0) 0 [] := .inl ⟨rfl, rfl, rfl⟩
theorem OwnM.len {m : Nat} {w : World} {v : Value} {n : Nat} {cs : List Value} (h : OwnM m w v n cs) : cs.length = n * m := by
  rcases h with ⟨_, rfl, rfl⟩ | ⟨_, _, _, _, _, h, _⟩
  · simp
  · exact h
theorem OwnM.lt {m : Nat} {w : World} {v : Value} {n : Nat} {cs : List Value} (h : OwnM m w v n cs) : ∀ k, v.ownBlock = some k → k < w.heap.size := by
  rcases h with ⟨rfl, _⟩ | ⟨g, _, rfl, _, _, _, _, _, h⟩
  · intro k hk; cases hk
  · intro k hk; cases hk; exact h
theorem OwnM.kept {m : Nat} {w w' : World} {v : Value} {n : Nat} {cs : List Value} (h : OwnM m w v n cs) (hs : w.heap.size ≤ w'.heap.size) (hb : ∀ g, v.ownBlock = some g → w'.heap[g]? = w.heap[g]?) : OwnM m w' v n cs := by
  rcases h with h | ⟨g, cap, rfl, h2, h3, h0, h4, h5, h6⟩
  · exact .inl h
  · exact .inr ⟨g, cap, rfl, h2, h3, h0, rangeAt_heap h4 (hb g rfl), there_heap h5 (hb g rfl), by omega⟩
theorem OwnM.below {m : Nat} {w w' : World} {v : Value} {n : Nat} {cs : List Value} (h : OwnM m w v n cs) (hb : Below w.heap.size w w') : OwnM m w' v n cs :=
  h.kept hb.size fun g hg => hb.block g (h.lt g hg)
theorem OwnM.drew {m : Nat} {w : World} {v : Value} {n : Nat} {cs : List Value} (h : OwnM m w v n cs) : OwnM m w.drew v n cs := h
theorem OwnM.alloc {m : Nat} {w : World} {v : Value} {n : Nat} {cs : List Value} (h : OwnM m w v n cs) (o : Obj) : OwnM m (w.alloc o) v n cs := h.below ((Below.refl _ _).alloc (Nat.le_refl _) _)
theorem OwnM.keep {m : Nat} {S : Nat → Prop} {w w' : World} {v : Value} {n : Nat} {cs : List Value} (h : OwnM m w v n cs) (hb : Keep S w w') (hne : ∀ k, v.ownBlock = some k → ¬ S k) : OwnM m w' v n cs :=
  h.kept hb.size fun g hg => hb.block g (h.lt g hg) (hne g hg)
theorem OwnM.shape {m : Nat} {w : World} {v : Value} {n : Nat} {cs : List Value} (h : OwnM m w v n cs) : ∃ a cap, v = .slice a n cap ∧ n ≤ cap ∧ cap ≤ 9223372036854775807 := by
  rcases h with ⟨rfl, rfl, _⟩ | ⟨g, cap, rfl, h2, h3, _⟩
  · exact ⟨none, 0, rfl, Nat.le_refl _, by omega⟩
  · exact ⟨_, cap, rfl, h2, by simp only [maxLen] at h3; omega⟩
theorem OwnM.cell {m : Nat} {w : World} {v : Value} {n : Nat} {cs : List Value} (h : OwnM m w v n cs) {j : Nat} {u : Value} (hu : cs[j]? = some u) : ∃ g cap, v = .slice (some ⟨g, 0, none⟩) n cap ∧ w.cell? ⟨g, j, none⟩ = some u ∧ g < w.heap.size := by
  rcases h with ⟨_, _, rfl⟩ | ⟨g, cap, rfl, _, _, _, h4, _, h6⟩
  · simp at hu
  · refine ⟨g, cap, rfl, ?_, h6⟩
    have := h4 j u hu
    rwa [Nat.zero_add] at this
theorem run_append_M {P : Program} {m : Nat} (w : World) (t tx ty e : TypeId) (i : TypeInfo) (z : Value) (ht : P.underlying t = some (.slice e)) (hi : P.info? e = some i) (hz : i.zero = some z)
    (hsize : i.size = m) (hzs : z.cells.size = m) (v : Value) (n0 : Nat) (cs : List Value) (hown : OwnM m w v n0 cs) (x : Value) (n : Nat) (news : List Value) (hs : Src P m tx x n news w)
    (hbytes : (n0 + n) * i.bytes ≤ 140737488355328) (h63 : n0 + n ≤ maxLen) (hpos : v = .slice none 0 0 → 0 < n) :
    ∃ v' w', (Builtin.append_ #[t, tx] ty #[v, x]).run P w = .ok v' w' ∧ OwnM m w' v' (n0 + n) (cs ++ news) ∧ Grow w w' v v' := by
  have hn : news.length = n * m := hs.newsLen
  have hcl := hown.len
  have h63' : n0 + n ≤ 9223372036854775807 := by simp only [maxLen] at h63; omega
  have grow : ∀ (b : Option Addr) (old : Nat), old < n0 + n → v = .slice b n0 old → (Builtin.firstCells m n0 (.slice b n0 old)).run P w.drew = .ok cs.toArray w.drew →
      ∃ v' w', (Builtin.append_ #[t, tx] ty #[v, x]).run P w = .ok v' w' ∧ OwnM m w' v' (n0 + n) (cs ++ news) ∧ Grow w w' v v' := by
    intro b old ho hv hold
    have hr := run_append_grow_src (P := P) w t tx ty e i z ht hi hz b n0 old cs (by rw [hsize]; exact hold) x n news (by rw [hsize]; exact hs) ho (by omega) (growslice_fits ho hbytes)
    have hge := grownCap_ge w (n0 + n) old e
    have hcm : grownCap w (n0 + n) old e ≤ maxLen := grownCap_le_maxLen w (n0 + n) old e h63
    have hnew : (w.drew.alloc (.cells ((cs ++ news).toArray ++ Builtin.zeroCells z.cells (grownCap w (n0 + n) old e - (n0 + n))) e)).heap[w.heap.size]? = some (.cells ((cs ++ news).toArray ++ Builtin.zeroCells z.cells (grownCap w (n0 + n) old e - (n0 + n))) e (0, 0)) := heap_alloc_new w.drew _
    refine ⟨.slice (some ⟨w.heap.size, 0, none⟩) (n0 + n) (grownCap w (n0 + n) old e), w.drew.alloc (.cells ((cs ++ news).toArray ++ Builtin.zeroCells z.cells (grownCap w (n0 + n) old e - (n0 + n))) e), by rw [hv]; exact hr, .inr ⟨w.heap.size, grownCap w (n0 + n) old e, rfl, hge, hcm, ?_, ?_, ?_, ?_⟩, ⟨rfl, rfl, rfl, by rw [size_alloc]; exact Nat.le_succ w.heap.size, fun k hk _ => Below.heap_alloc w.drew _ k hk, .inr ⟨fun k hk => ?_, fun k hk => Below.heap_alloc w.drew _ k hk⟩⟩⟩
    · rw [List.length_append, hn, hcl, Nat.add_mul]
    · intro j u hj
      rw [cell_of_row _ _ _ _ _ _ hnew, Nat.zero_add]
      have hj' : j < (cs ++ news).length := (List.getElem?_eq_some_iff.1 hj).1
      rw [Array.getElem?_append_left (by simpa using hj')]
      simpa using hj
    · refine there_of_row hnew 0 _ ?_
      simp only [Array.size_append, List.size_toArray, size_zeroCells, hzs, List.length_append, hn, hcl]
      rw [← Nat.add_mul, ← Nat.add_mul]
      exact Nat.le_of_eq (by rw [Nat.zero_add]; congr 1; omega)
    · rw [size_alloc]; exact Nat.lt_succ_self _
    · have hk : some w.heap.size = some k := hk
      injection hk with hk
      omega
  rcases hown with ⟨rfl, rfl, rfl⟩ | ⟨g, cap, rfl, h2, h3, h0, h4, h5, h6⟩
  · exact grow none 0 (by have := hpos rfl; omega) rfl (run_firstCells_none w.drew m 0 0 0)
  · by_cases hroom : n0 + n ≤ cap
    · have hle : n0 * m + n * m ≤ cap * m := by rw [← Nat.add_mul]; exact Nat.mul_le_mul_right _ hroom
      have hr := run_append_room_src (P := P) w t tx ty e i ht hi g 0 n0 cap x n news (by rw [hsize]; exact hs) hroom
        (fun j hj => by rw [hsize]; exact by have := (h5 (n0 * m + j) (by omega)).1; simpa [Nat.add_assoc] using this)
        (fun j hj => by rw [hsize]; exact by have := (h5 (n0 * m + j) (by omega)).2; simpa [Nat.add_assoc] using this)
      rw [hsize, Nat.zero_add] at hr
      have ht' : w.there g (n0 * m) news.length := fun j hj => by have := h5 (n0 * m + j) (by omega); simpa using this
      refine ⟨_, _, hr, .inr ⟨g, cap, rfl, hroom, h3, ?_, ?_, World.there_setCells h5 _ _ _, ?_⟩, ?_⟩
      · rw [List.length_append, hn, h0, Nat.add_mul]
      · intro j u hj
        by_cases hjl : j < cs.length
        · rw [List.getElem?_append_left hjl] at hj
          exact World.rangeAt_setCells_apart h4 g (n0 * m) news (.inr (.inl (by omega))) j u hj
        · rw [List.getElem?_append_right (by omega)] at hj
          have := World.rangeAt_setCells_same w g (n0 * m) news ht' (j - cs.length) u hj
          rwa [show n0 * m + (j - cs.length) = 0 + j from by omega] at this
      · have := (But.setCells news (n0 * m) (But.refl g w)).size; omega
      · have hb := But.setCells news (n0 * m) (But.refl g w)
        exact ⟨hb.os, hb.tape, hb.output, hb.size, fun k hk hne => hb.block k hk (fun e => hne (by rw [e]; rfl)), .inl rfl⟩
    · refine grow (some ⟨g, 0, none⟩) cap (by omega) rfl ?_
      exact run_firstCells_some w.drew m n0 ⟨g, 0, none⟩ n0 cap cs h0 (fun j u hj => by rw [Addr.add_mid]; exact h4 j u hj)
end Go.Proofs.YtenklmjeeejfdaaGreatDoor

namespace Go.Proofs.YtenklmjeeejfdaaGreatDoor
open Go.RowKit Go.Shelf
theorem append_oneL {m : Nat} (t e : TypeId) (z : Value) (by_ : Nat) (hu : Tryz.prog.underlying t = some (.slice e)) (hinfo : (Tryz.prog.info? e).map (fun i => (i.zero, i.size, i.bytes)) = some (some z, m, by_)) (hzs : z.cells.size = m)
    (w : World) (v : Value) (n0 : Nat) (cs : List Value) (xs : List Value) (hm : xs.length = m) (h1 : ∀ u ∈ xs, u.oneCell' = true) (hown : OwnM m w v n0 cs) (hb : (n0 + 1) * by_ ≤ 140737488355328) (hlen : n0 + 1 ≤ maxLen) :
    ∃ v' w', (Builtin.append_ #[t, t] t #[v, .slice (some ⟨w.heap.size, 0, none⟩) 1 1]).run Tryz.prog (w.alloc (.cells xs.toArray e)) = .ok v' w' ∧ OwnM m w' v' (n0 + 1) (cs ++ xs) ∧ Grow w w' v v' := by
  obtain ⟨i0, hi, hz0, hz1, hz2⟩ := info_parts hinfo
  have hsrc : Src Tryz.prog m t (.slice (some ⟨w.heap.size, 0, none⟩) 1 1) 1 xs (w.alloc (.cells xs.toArray e)) :=
    Src.ofSlice _ hu ⟨w.heap.size, 0, none⟩ 1 1 xs (by rw [hm, Nat.one_mul]) (fun j u hj => by
      rw [Addr.add_mid, cell_of_row _ _ _ _ _ _ (heap_alloc_new w _), Nat.zero_add]; simpa using hj) h1
  obtain ⟨v', w', a1, a2, a3⟩ := run_append_M (P := Tryz.prog) (w.alloc (.cells xs.toArray e)) t t t e i0 z hu hi hz0 hz1 hzs v n0 cs (hown.alloc _) _ 1 xs hsrc
    (by rw [hz2]; exact hb) hlen (fun _ => by omega)
  have hs := a3.size
  rw [size_alloc] at hs
  refine ⟨v', w', a1, a2, ⟨a3.os, a3.tape, a3.output, by omega, fun k hk hne => (a3.old k (by rw [size_alloc]; omega) hne).trans (Below.heap_alloc w _ k hk), ?_⟩⟩
  rcases a3.alt with h4 | ⟨h4, h5⟩
  · exact .inl h4
  · refine .inr ⟨fun k hk => ?_, fun k hk => (h5 k (by rw [size_alloc]; omega)).trans (Below.heap_alloc w _ k hk)⟩
    have := h4 k hk
    rw [size_alloc] at this
    omega
def prs (l : List (Nat × Nat)) : List Value := l.flatMap fun q => [.int .i64 (q.1 : Int), .int .i64 (q.2 : Int)]
theorem prs_append (l m : List (Nat × Nat)) : prs (l ++ m) = prs l ++ prs m := List.flatMap_append
theorem prs_get : ∀ {l : List (Nat × Nat)} {j : Nat} {q : Nat × Nat}, l[j]? = some q → (prs l)[j * 2]? = some (.int .i64 (q.1 : Int)) ∧ (prs l)[j * 2 + 1]? = some (.int .i64 (q.2 : Int))
  | [], j, q, h => by simp at h
  | a :: l, 0, q, h => by
    obtain rfl : a = q := by simpa using h
    exact ⟨rfl, rfl⟩
  | a :: l, j + 1, q, h => by
    have := prs_get (l := l) (j := j) (by simpa using h)
    rw [show (j + 1) * 2 = j * 2 + 2 from by omega]
    exact this
abbrev OwnP (w : World) (v : Value) (l : List (Nat × Nat)) : Prop := OwnM 2 w v l.length (prs l)
theorem infoSp8 : (Tryz.prog.info? 56).map (fun i => (i.zero, i.size, i.bytes)) = some (some (.agg #[.int .i64 0, .int .i64 0]), 2, 16) := by kernel_rfl
theorem append_pair (w : World) (v : Value) (l : List (Nat × Nat)) (x y : Nat) (h : OwnP w v l) (hl : l.length ≤ 1099511627776) :
    ∃ v' w', (Builtin.append_ #[36, 36] 36 #[v, .slice (some ⟨w.heap.size, 0, none⟩) 1 1]).run Tryz.prog (w.alloc (.cells #[.int .i64 (x : Int), .int .i64 (y : Int)] 56)) = .ok v' w' ∧ OwnP w' v' (l ++ [(x, y)]) ∧ Grow w w' v v' := by
  obtain ⟨v', w', h1, h2, h3⟩ := append_oneL 36 56 (.agg #[.int .i64 0, .int .i64 0]) 16 Tryz.underlying36 infoSp8 rfl w v l.length (prs l) [.int .i64 (x : Int), .int .i64 (y : Int)] rfl (fun u hu => by
    simp only [List.mem_cons, List.not_mem_nil, or_false] at hu
    rcases hu with rfl | rfl <;> rfl) h (by omega) (by rw [maxLen]; omega)
  refine ⟨v', w', h1, ?_, h3⟩
  unfold OwnP
  rw [prs_append, List.length_append]; exact h2
structure Col (W : World) (gb : Nat) (t : TypeId) (v : Value) (L : List (Nat × Nat)) : Prop where
  box : Boxed W gb t v
  own : OwnP W v L
  ne : v.ownBlock ≠ some gb
def Col.F (gb : Nat) (v : Value) : Nat → Prop := fun k => k = gb ∨ v.ownBlock = some k
theorem Col.keep {W W' : World} {gb : Nat} {t : TypeId} {v : Value} {L : List (Nat × Nat)} {S : Nat → Prop} (h : Col W gb t v L) (hk : Keep S W W') (hs : ∀ k, Col.F gb v k → ¬ S k) : Col W' gb t v L :=
  ⟨h.box.keepF hk (hs _ (.inl rfl)), h.own.keep hk fun k e => hs k (.inr e), h.ne⟩
theorem Col.lt {W : World} {gb : Nat} {t : TypeId} {v : Value} {L : List (Nat × Nat)} (h : Col W gb t v L) : ∀ k, Col.F gb v k → k < W.heap.size := by
  rintro k (rfl | e)
  · exact h.box.lt
  · exact h.own.lt k e
theorem Col.push {W w' : World} {gb : Nat} {t : TypeId} {v v' : Value} {L L' : List (Nat × Nat)} (h : Col W gb t v L) (h1 : OwnP w' v' L') (g : Grow W w' v v') :
    Boxed w' gb t v ∧ Col (w'.setCell ⟨gb, 0, none⟩ v') gb t v' L' ∧ Mvs (Col.F gb v) W (w'.setCell ⟨gb, 0, none⟩ v') (Col.F gb v') := by
  have b1 := h.box.keepF g.keep h.ne
  have hne : v'.ownBlock ≠ some gb := fun e => by
    rcases g.alt with q | ⟨q, _⟩
    · exact h.ne (by rw [← q]; exact e)
    · have := q gb e; have := h.box.lt; omega
  refine ⟨b1, ⟨b1.set v', ?_, hne⟩, ?_, ?_⟩
  · exact h1.keep (Keep.ofSet (S := fun k => k = gb) w' gb 0 v' rfl) fun k hk e => hne (e ▸ hk)
  · exact (g.keep.mono (T := Col.F gb v) fun k _ e => .inr e).trans (Keep.ofSet (S := fun k => k = gb) w' gb 0 v' rfl) fun k _ e => .inl e
  · rintro k (e | e)
    · exact .inl (.inl e)
    · rcases g.alt with q | ⟨q, _⟩
      · exact .inl (.inr (by rw [← q]; exact e))
      · exact .inr (q k e)
end Go.Proofs.YtenklmjeeejfdaaGreatDoor

namespace Go.Proofs.YtenklmjeeejfdaaGreatDoor
open Go.RowKit Go.Shelf
theorem OwnM.set {m : Nat} {w : World} {g n c : Nat} {cs : List Value} (h : OwnM m w (.slice (some ⟨g, 0, none⟩) n c) n cs) {j : Nat} (hj : j < cs.length) (u : Value) :
    OwnM m (w.setCell ⟨g, j, none⟩ u) (.slice (some ⟨g, 0, none⟩) n c) n (cs.set j u) ∧ (∃ y, w.cell? ⟨g, j, none⟩ = some y) ∧ w.frozen? ⟨g, j, none⟩ = false := by
  rcases h with ⟨h, _⟩ | ⟨g', cap', h, h2, h3, h0, h4, h5, h6⟩
  · cases h
  injection h with e1 e2 e3
  injection e1 with e1
  injection e1 with e1
  subst e1 e3
  have ht := h5 j (by have := Nat.mul_le_mul_right m h2; omega)
  rw [Nat.zero_add] at ht
  obtain ⟨y, hy⟩ := Option.isSome_iff_exists.1 ht.1
  refine ⟨.inr ⟨g, c, rfl, h2, h3, by rw [List.length_set]; exact h0, ?_, ?_, by simpa [World.setCell] using h6⟩, ⟨y, hy⟩, ht.2⟩
  · intro k u' hk
    rw [List.getElem?_set] at hk
    rw [Nat.zero_add]
    split at hk
    · next e =>
      subst e
      (try split at hk) <;> first | (rw [World.cell?_setCell_same _ _ _ (by rw [hy]; try rfl)]; exact hk) | cases hk
    · next e =>
      rw [World.cell?_setCell_other _ _ _ _ (by simp; try exact fun e' => e e'.symm)]
      have := h4 k u' hk
      rwa [Nat.zero_add] at this
  · intro k hk
    have := h5 k hk
    rw [World.frozen?_setCell]
    refine ⟨?_, this.2⟩
    by_cases e : j = 0 + k
    · rw [← e, World.cell?_setCell_same _ _ _ (by rw [hy]; try rfl)]; rfl
    · rw [World.cell?_setCell_other _ _ _ _ (by simp; try exact fun e' => e (by omega))]; exact this.1
structure Wr (ρ : Nat → Nat) (r : Nat) (w w' : World) : Prop where
  os : w'.os = w.os
  tape : w'.tape = w.tape
  output : w'.output = w.output
  size : w.heap.size ≤ w'.heap.size
  block : ∀ k, k < w.heap.size → ρ k ≠ r → w'.heap[k]? = w.heap[k]?
def rx (ρ : Nat → Nat) (w : World) (r : Nat) : Nat → Nat := fun k => if k < w.heap.size then ρ k else r
theorem rx_old {ρ : Nat → Nat} {w : World} {r k : Nat} (h : k < w.heap.size) : rx ρ w r k = ρ k := if_pos h
theorem rx_new {ρ : Nat → Nat} {w : World} {r k : Nat} (h : w.heap.size ≤ k) : rx ρ w r k = r := if_neg (by omega)
theorem Wr.grow {ρ : Nat → Nat} {r : Nat} {w w' : World} {v v' : Value} (hg : Grow w w' v v') (hr : ∀ k, v.ownBlock = some k → ρ k = r) : Wr ρ r w w' :=
  ⟨hg.os, hg.tape, hg.output, hg.size, fun k hk hne => hg.old k hk (fun e => hne (hr k e))⟩
theorem Wr.setCell {ρ : Nat → Nat} {r : Nat} {w w' : World} (h : Wr ρ r w w') {g : Nat} (hg : g < w.heap.size → ρ g = r) (o : Nat) (u : Value) : Wr ρ r w (w'.setCell ⟨g, o, none⟩ u) :=
  ⟨h.os, h.tape, h.output, by simpa [World.setCell] using h.size, fun k hk hne => (heap_setCell_other w' ⟨g, o, none⟩ k u (fun e => hne (by subst e; exact hg hk))).trans (h.block k hk hne)⟩
theorem Wr.refl (ρ : Nat → Nat) (r : Nat) (w : World) : Wr ρ r w w := ⟨rfl, rfl, rfl, Nat.le_refl _, fun _ _ _ => rfl⟩
theorem Wr.below {ρ : Nat → Nat} {r : Nat} {w w' : World} (h : Below w.heap.size w w') : Wr ρ r w w' := ⟨h.os, h.tape, h.output, h.size, fun k hk _ => h.block k hk⟩
theorem Wr.own {ρ : Nat → Nat} {r : Nat} {w w' : World} {v v' : Value} (hg : Grow w w' v v') (hr : ∀ k, v.ownBlock = some k → ρ k = r) (hl : ∀ k, v.ownBlock = some k → k < w.heap.size) : ∀ k, v'.ownBlock = some k → rx ρ w r k = r := fun k e => by
  rcases hg.alt with e1 | ⟨e1, _⟩
  · rw [e1] at e; rw [rx_old (hl k e)]; exact hr k e
  · exact rx_new (e1 k e)
end Go.Proofs.YtenklmjeeejfdaaGreatDoor
