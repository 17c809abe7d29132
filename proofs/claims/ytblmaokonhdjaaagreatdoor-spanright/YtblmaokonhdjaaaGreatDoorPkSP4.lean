import Derived.Test.YtblmaokonhdjaaaGreatDoorPkFN1
import Derived.Laws.StructEq
namespace Go.Proofs.YtblmaokonhdjaaaGreatDoor
open Go.RowKit Go.Shelf
attribute [local go_sem] Oper.semAt_some
set_option maxRecDepth 100000 in
theorem way_any (n i : Int) (w : World) : Calls Tryz.prog 148 #[.int .i64 n, .int .i64 i] w fun r w' =>
    r = .returned (.func (.func 182) #[] #[.pointer (some ⟨w.heap.size, 0, none⟩), .pointer (some ⟨w.heap.size + 1, 0, none⟩)]) ∧ w' = (w.alloc (.cells #[.int .i64 n] 3)).alloc (.cells #[.int .i64 i] 3) := by
  go_enter Tryz.func148, Tryz.ntmps148
  go_wp2
  go_ret
  exact ⟨rfl, rfl⟩
/-- a span as it is handed to a loop -/
abbrev enS (s : Nat × Nat) : Array Value := #[sg s.1 s.2]
set_option maxRecDepth 100000 in
set_option maxHeartbeats 4000000 in
theorem way_iter (n i p q : Nat) (hn : 1 ≤ n) (hn2 : n ≤ 1099511627776) (hi : i < n) (w : World) (hp : w.cell? ⟨p, 0, none⟩ = some (.int .i64 (n : Int))) (hq : w.cell? ⟨q, 0, none⟩ = some (.int .i64 (i : Int))) :
    IterC Tryz.prog 182 #[.pointer (some ⟨p, 0, none⟩), .pointer (some ⟨q, 0, none⟩)] enS (Tree.wayF n 0 n i) (fun k => k = p ∨ k = q) (fun _ => False) w := by
  intro N l J Jx F W fJ fX hW hFC hY h0
  have hpl : p < w.heap.size := World.block_lt_of_cell? w ⟨p, 0, none⟩ hp
  have hql : q < w.heap.size := World.block_lt_of_cell? w ⟨q, 0, none⟩ hq
  have hp1 : W.cell? ⟨p, 0, none⟩ = some (.int .i64 (n : Int)) := (hW.cell (p := ⟨p, 0, none⟩) hpl).trans hp
  have hq1 : W.cell? ⟨q, 0, none⟩ = some (.int .i64 (i : Int)) := (hW.cell (p := ⟨q, 0, none⟩) hql).trans hq
  have hs := hW.size
  refine callsIn_of_wp Tryz.func182 rfl trivial ?_ rfl
  simp only [Tryz.ntmps182, List.size_toArray, List.length_cons, List.length_nil, Nat.reduceAdd, Nat.reduceSub, Array.replicate_succ, Array.replicate_zero, List.push_toArray, List.append_toArray, List.nil_append, List.cons_append]
  gi_wp2
  have S0 := SpI.new W 0 n
  have hFl := fJ.lt _ _ _ h0
  obtain ⟨g, hg⟩ : ∃ g, Hid (W.heap.size = g) := ⟨_, rfl⟩
  have K0 : Hid (Keep F W (W.alloc (.cells #[.int .i64 0, .int .i64 (n : Int)] 50))) := Keep.ofBelow ((Below.refl _ _).alloc (Nat.le_refl _) _)
  have J0 := hid (fJ.keep _ _ _ _ (fun _ => False) h0 (Keep.ofBelow ((Below.refl _ W).alloc (Nat.le_refl _) (.cells #[.int .i64 0, .int .i64 (n : Int)] 50))) (fun _ _ e => e))
  rw [hg.out] at S0
  rw [hg.out]
  have S0 := hid S0
  gi_loopw [7] (fun _ wr => ∃ (pre : List (Nat × Nat)) (f b e : Nat) (F' : Nat → Prop), Hid (Tree.wayF n 0 n i = pre ++ Tree.wayF f b (e - b) i) ∧ Hid (e - b ≤ f) ∧ b ≤ i ∧ i < e ∧ e ≤ n ∧ Hid (SpI wr g b e) ∧ Hid (J F' pre wr) ∧ Hid (Keep F W wr) ∧ Hid (∀ k, F' k → F k ∨ g < k)) (fun _ wr => memN wr g 1 - memN wr g 0)
  case atStart =>
    exact ⟨[], n, 0, n, F, rfl, Nat.le_refl _, by omega, hi, Nat.le_refl _, S0, J0, K0, fun k hk => .inl hk⟩
  case round =>
    obtain ⟨pre, f, b, e, F', hx, hf, hbi, hie, hen, hS, hJ, hK, hN⟩ := hrel
    clear S0 J0 K0
    have hng : ¬ F' g := fun h => by
      rcases hN.out g h with h | h
      · have := hFl g h; have := hg.out; omega
      · omega
    obtain ⟨rest, hr⟩ : ∃ rest, Hid (Tree.wayF f b (e - b) i = (b, e) :: rest) := by
      have := hf.out
      obtain ⟨f', rfl⟩ : ∃ f', f = f' + 1 := ⟨f - 1, by omega⟩
      refine ⟨(Tree.wayF (f' + 1) b (e - b) i).tail, ?_⟩
      unfold Hid
      rw [Tree.wayF, show b + (e - b) = e by omega]; rfl
    have hYy := hY F' pre (b, e) rest wr hJ.out (by rw [hx.out, hr.out])
    obtain ⟨fn, tmps, assign, body, hy, hR⟩ := hYy
    have c0 := hS.out.c0
    have c1 := hS.out.c1
    gi_wp2
    refine ⟨fun h => (by cases h), hR.mono ?_⟩
    clear hR hy c0 c1
    rintro e' W3 ⟨F3, hm, hh⟩
    have hn3 : Hid (∀ k, F3 k → F k ∨ g < k) := fun k hk => by
      rcases hm.new k hk with h | h
      · exact hN.out k h
      · have := lt_of_heap hS.out; exact .inr (by omega)
    have hng3 : ¬ F3 g := fun h => by
      rcases hn3.out g h with h | h
      · have := hFl g h; have := hg.out; omega
      · omega
    have hk3 : Hid (Keep F W W3) := hK.out.trans hm.keep fun k hk hf => by
      rcases hN.out k hf with h | h
      · exact h
      · have := hg.out; omega
    have hS3 := hS.out.keep hm.keep hng
    have c0 := hS3.c0
    have c1 := hS3.c1
    have hq3 : W3.cell? ⟨q, 0, none⟩ = some (.int .i64 (i : Int)) := by
      have hb := hk3.out.block q (by omega) (fun h => hFC q h (.inr rfl))
      exact (World.cell?_of_block (a := ⟨q, 0, none⟩) hb).trans hq1
    rcases hh with ⟨rfl, hJ3⟩ | ⟨rfl, hX3⟩
    · have i1 := slen_nat b e (by omega) (by omega) W3
      by_cases h1 : 1 < e - b
      · have h1' : (1 : Int) < ((e - b : Nat) : Int) := by omega
        gi_wp2
        refine ⟨trivial, fun h => (by cases h), (callsIn_wide.2 i1).mono ?_⟩
        clear i1 c0 c1
        rintro r W4 ⟨rfl, hb4⟩
        have hS4 := hS3.below hb4
        have c0 := hS4.c0
        have c1 := hS4.c1
        have hq4 : W4.cell? ⟨q, 0, none⟩ = some (.int .i64 (i : Int)) := (hb4.cell (p := ⟨q, 0, none⟩) (World.block_lt_of_cell? W3 ⟨q, 0, none⟩ hq3)).trans hq3
        have i2 := toward_any b e i (by omega) (by omega) W4
        gi_wp2
        refine ⟨trivial, fun h => (by cases h), (callsIn_wide.2 i2).mono ?_⟩
        clear i2 c0 c1
        rintro r W5 ⟨rfl, hb5⟩
        have hS5 := hS4.below hb5
        have c0 := hS5.c0
        have c1 := hS5.c1
        have f0 := hS5.f0
        have f1 := hS5.f1
        have hs2 : Hid ((Tree.twd i (b, e)).1 ≤ i ∧ i < (Tree.twd i (b, e)).2 ∧ b ≤ (Tree.twd i (b, e)).1 ∧ (Tree.twd i (b, e)).2 ≤ e ∧ (Tree.twd i (b, e)).2 - (Tree.twd i (b, e)).1 < e - b) := by
          have s1 := Tree.sp_lt (n := e - b) (by omega)
          have s2 := Tree.sp_pos (n := e - b) (by omega)
          unfold Hid Tree.twd
          by_cases h : i < b + Tree.sp (e - b)
          · simp only [if_pos h]; omega
          · simp only [if_neg h]; omega
        have hr2 : Hid (rest = Tree.wayF (f - 1) (Tree.twd i (b, e)).1 ((Tree.twd i (b, e)).2 - (Tree.twd i (b, e)).1) i) := by
          have hf := hf.out
          have hr := hr.out
          obtain ⟨f', rfl⟩ : ∃ f', f = f' + 1 := ⟨f - 1, by omega⟩
          unfold Hid
          rw [Nat.add_sub_cancel]
          unfold Tree.twd
          by_cases h : i < b + Tree.sp (e - b)
          · rw [Tree.wayF_left (by omega) h] at hr
            simp only [if_pos h]
            rw [show b + Tree.sp (e - b) - b = Tree.sp (e - b) by omega]
            injection hr with _ hr
            exact hr.symm
          · rw [Tree.wayF_right (by omega) h] at hr
            simp only [if_neg h]
            rw [show e - (b + Tree.sp (e - b)) = e - b - Tree.sp (e - b) by omega]
            injection hr with _ hr
            exact hr.symm
        generalize (Tree.twd i (b, e)).1 = b2 at *
        generalize (Tree.twd i (b, e)).2 = e2 at *
        gi_wp2
        go_roundw
        case rel =>
          refine ⟨pre ++ [(b, e)], f - 1, b2, e2, F3, ?_, ?_, hs2.out.1, hs2.out.2.1, by have := hs2.out; omega, hS5.two _ _, ?_, ?_, hn3⟩
          · unfold Hid; rw [hx.out, hr.out, hr2.out, List.append_assoc]; rfl
          · unfold Hid; have := hs2.out; have := hf.out; omega
          · exact fJ.keep _ _ _ _ (fun k => k = g) (fJ.keep _ _ _ _ (fun _ => False) hJ3 (Keep.ofBelow (hb4.trans (hb5.mono hb4.size))) (fun _ _ h => h)) ((Keep.ofSet (S := fun k => k = g) _ g 0 _ rfl).trans (Keep.ofSet (S := fun k => k = g) _ g 1 _ rfl) fun _ _ h => h) (fun k hk h => hng3 (h ▸ hk))
          · exact ((hk3.out.trans (Keep.ofBelow (S := F) (hb4.trans (hb5.mono hb4.size))) fun _ _ h => h).trans (Keep.ofSet (S := fun k => k = g) _ g 0 _ rfl) fun k hk h => by have := hg.out; omega).trans (Keep.ofSet (S := fun k => k = g) _ g 1 _ rfl) fun k hk h => by have := hg.out; omega
        case measure =>
          have h5 := (hS5.two (b2 : Int) (e2 : Int))
          have e1 : memN ((W5.setCell ⟨g, 0, none⟩ (.int .i64 (b2 : Int))).setCell ⟨g, 1, none⟩ (.int .i64 (e2 : Int))) g 1 = e2 := by unfold memN; rw [h5.c1]; exact Int.toNat_natCast _
          have e0 : memN ((W5.setCell ⟨g, 0, none⟩ (.int .i64 (b2 : Int))).setCell ⟨g, 1, none⟩ (.int .i64 (e2 : Int))) g 0 = b2 := by unfold memN; rw [h5.c0]; exact Int.toNat_natCast _
          have d1 : memN wr g 1 = e := by unfold memN; rw [hS.out.c1]; exact Int.toNat_natCast _
          have d0 : memN wr g 0 = b := by unfold memN; rw [hS.out.c0]; exact Int.toNat_natCast _
          rw [e1, e0, d1, d0]
          exact hs2.out.2.2.2.2
      · have h1' : ¬ (1 : Int) < ((e - b : Nat) : Int) := by omega
        gi_wp2
        refine ⟨trivial, fun h => (by cases h), (callsIn_wide.2 i1).mono ?_⟩
        clear i1 c0 c1
        rintro r W4 ⟨rfl, hb4⟩
        gi_wp2
        go_end0
        refine ⟨⟨_, rfl⟩, F3, ?_, fun k hk => ?_, .inl ?_⟩
        · exact (hk3.out.trans (Keep.ofBelow (S := F) hb4) fun _ _ h => h).mono fun k _ h => .inl h
        · rcases hn3.out k hk with h | h
          · exact .inl h
          · exact .inr (by have := hg.out; omega)
        · have e1 : rest = [] := by
            have hf := hf.out
            have hr := hr.out
            obtain ⟨f', rfl⟩ : ∃ f', f = f' + 1 := ⟨f - 1, by omega⟩
            rw [Tree.wayF_one (by omega)] at hr
            injection hr with _ hr
            exact hr.symm
          rw [hx.out, hr.out, e1]
          exact fJ.keep _ _ _ _ (fun _ => False) hJ3 (Keep.ofBelow hb4) (fun _ _ h => h)
    · gi_wp2
      refine ⟨trivial, ?_⟩
      gi_wp2
      go_end0
      refine ⟨⟨_, rfl⟩, F3, hk3.out.mono fun k _ h => .inl h, fun k hk => ?_, .inr ⟨pre ++ [(b, e)], ⟨rest, ?_⟩, hX3⟩⟩
      · rcases hn3.out k hk with h | h
        · exact .inl h
        · exact .inr (by have := hg.out; omega)
      · rw [hx.out, hr.out, List.append_assoc]; rfl
end Go.Proofs.YtblmaokonhdjaaaGreatDoor

namespace Go.Proofs.YtblmaokonhdjaaaGreatDoor
open Go.RowKit
theorem spU : Tryz.prog.underlying 50 = some (.struct (Tryz.prog.fieldsOf 50)) := by kernel_rfl
theorem spP : Tryz.prog.stoodInHeld 50 = false := by kernel_rfl
theorem spF : (Tryz.prog.fieldsOf 50).toList.map (fun f => (f.name, f.type, f.offset)) = [("Begin", 3, 0), ("End", 3, 1)] := by kernel_rfl
theorem two_fields {fs : List Field} {a b : String × TypeId × Nat} (h : fs.map (fun f => (f.name, f.type, f.offset)) = [a, b]) : ∃ f g, fs = [f, g] ∧ f.name = a.1 ∧ f.type = a.2.1 ∧ f.offset = a.2.2 ∧ g.name = b.1 ∧ g.type = b.2.1 ∧ g.offset = b.2.2 := by
  match fs, h with
  | [f, g], h =>
    simp only [List.map_cons, List.map_nil, List.cons.injEq, and_true] at h
    obtain ⟨h1, h2⟩ := h
    exact ⟨f, g, rfl, by rw [← h1], by rw [← h1], by rw [← h1], by rw [← h2], by rw [← h2], by rw [← h2]⟩
theorem part0 (a b : Value) (w : World) : (part 3 #[a, b] 0).run Tryz.prog w = .ok a w := by kernel_rfl
theorem part1 (a b : Value) (w : World) : (part 3 #[a, b] 1).run Tryz.prog w = .ok b w := by kernel_rfl
theorem eq_sp (p f q e : Int) (w : World) : (binOp .eql 50 (.agg #[.int .i64 p, .int .i64 f]) (.agg #[.int .i64 q, .int .i64 e])).run Tryz.prog w = .ok (.bool (p == q && f == e)) w := by
  rw [run_eql_struct, run_equalIn_agg w 9999 _ _ _ spU spP]
  obtain ⟨f1, f2, hf, a1, a2, a3, b1, b2, b3⟩ := two_fields spF
  rw [hf]
  simp only [Op.eqFields, a1, a2, a3, b1, b2, b3]
  simp only [Sem.run_ite, Sem.run_bind, part0, part1, Result.andThen_ok, run_equalIn_int w 9998 3 .i64 .i64 _ _ Tryz.underlying3]
  generalize (p == q) = u
  generalize (f == e) = v
  cases u <;> cases v <;> simp
end Go.Proofs.YtblmaokonhdjaaaGreatDoor
