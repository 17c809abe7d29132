import Derived.Test.YtbodgecbakcaaaaGreatDoorPkFR1
import Derived.Laws.StructEq
import Derived.RangeFuncBox
import Derived.Test.YtbodgecbakcaaaaGreatDoorPkO23
namespace Go.Proofs.YtbodgecbakcaaaaGreatDoor
open Go.RowKit Go.Shelf
attribute [local go_sem] Oper.semAt_some
set_option maxRecDepth 100000 in
theorem way_any (n i : Int) (w : World) : Calls Tryz.prog 75 #[.int .i64 n, .int .i64 i] w fun r w' =>
    r = .returned (.func (.func 92) #[] #[.pointer (some ⟨w.heap.size, 0, none⟩), .pointer (some ⟨w.heap.size + 1, 0, none⟩)]) ∧ w' = (w.alloc (.cells #[.int .i64 n] 3)).alloc (.cells #[.int .i64 i] 3) := by
  go_enter Tryz.func75, Tryz.ntmps75
  go_wp2
  go_ret
  exact ⟨rfl, rfl⟩
abbrev enS (s : Nat × Nat) : Array Value := #[sg s.1 s.2]
set_option maxRecDepth 100000 in
set_option maxHeartbeats 4000000 in
theorem way_iter (n i p q : Nat) (hn : 1 ≤ n) (hn2 : n ≤ 1099511627776) (hi : i < n) (w : World) (hp : w.cell? ⟨p, 0, none⟩ = some (.int .i64 (n : Int))) (hq : w.cell? ⟨q, 0, none⟩ = some (.int .i64 (i : Int))) :
    IterC Tryz.prog 92 #[.pointer (some ⟨p, 0, none⟩), .pointer (some ⟨q, 0, none⟩)] enS (Tree.wayF n 0 n i) (fun k => k = p ∨ k = q) (fun _ => False) w := by
  intro N l J Jx F W fJ fX hW hFC hY h0
  have hpl : p < w.heap.size := World.block_lt_of_cell? w ⟨p, 0, none⟩ hp
  have hql : q < w.heap.size := World.block_lt_of_cell? w ⟨q, 0, none⟩ hq
  have hp1 : W.cell? ⟨p, 0, none⟩ = some (.int .i64 (n : Int)) := (hW.cell (p := ⟨p, 0, none⟩) hpl).trans hp
  have hq1 : W.cell? ⟨q, 0, none⟩ = some (.int .i64 (i : Int)) := (hW.cell (p := ⟨q, 0, none⟩) hql).trans hq
  have hs := hW.size
  refine callsIn_of_wp Tryz.func92 rfl trivial ?_ rfl
  simp only [Tryz.ntmps92, List.size_toArray, List.length_cons, List.length_nil, Nat.reduceAdd, Nat.reduceSub, Array.replicate_succ, Array.replicate_zero, List.push_toArray, List.append_toArray, List.nil_append, List.cons_append]
  gi_wp2
  have S0 := SpI.new W 0 n
  have hFl := fJ.lt _ _ _ h0
  obtain ⟨g, hg⟩ : ∃ g, Hid (W.heap.size = g) := ⟨_, rfl⟩
  have K0 : Hid (Keep F W (W.alloc (.cells #[.int .i64 0, .int .i64 (n : Int)] 62))) := Keep.ofBelow ((Below.refl _ _).alloc (Nat.le_refl _) _)
  have J0 := hid (fJ.keep _ _ _ _ (fun _ => False) h0 (Keep.ofBelow ((Below.refl _ W).alloc (Nat.le_refl _) (.cells #[.int .i64 0, .int .i64 (n : Int)] 62))) (fun _ _ e => e))
  rw [hg.out] at S0
  rw [hg.out]
  have S0 := hid S0
  gi_loopw [7] (fun _ wr => ∃ (pre : List (Nat × Nat)) (f b e : Nat) (F' : Nat → Prop), Hid (Tree.wayF n 0 n i = pre ++ Tree.wayF f b (e - b) i) ∧ Hid (e - b ≤ f) ∧ b ≤ i ∧ i < e ∧ e ≤ n ∧ Hid (SpI wr g b e) ∧ Hid (J F' pre wr) ∧ Hid (Keep F W wr) ∧ Hid (∀ k, F' k → F k ∨ g < k)) (fun _ wr => memN wr g 1 - memN wr g 0)
  case atStart =>
    exact ⟨[], n, 0, n, F, rfl, Nat.le_refl _, by omega, hi, Nat.le_refl _, S0, J0, K0, fun k hk => .inl hk⟩
  case round =>
    obtain ⟨pre, f, b, e, F', hx, hf, hbi, hie, hen, hS, hJ, hK, hN⟩ := hrel
    clear S0 J0 K0
    have hng : ¬ F' g := fun h => by
      rcases hN.out g h with h | h
      · have := hFl g h; have := hg.out; omega
      · omega
    obtain ⟨rest, hr⟩ : ∃ rest, Hid (Tree.wayF f b (e - b) i = (b, e) :: rest) := by
      have := hf.out
      obtain ⟨f', rfl⟩ : ∃ f', f = f' + 1 := ⟨f - 1, by omega⟩
      refine ⟨(Tree.wayF (f' + 1) b (e - b) i).tail, ?_⟩
      unfold Hid
      rw [Tree.wayF, show b + (e - b) = e by omega]; rfl
    have hYy := hY F' pre (b, e) rest wr hJ.out (by rw [hx.out, hr.out])
    obtain ⟨fn, tmps, assign, body, hy, hR⟩ := hYy
    have c0 := hS.out.c0
    have c1 := hS.out.c1
    gi_wp2
    refine ⟨fun h => (by cases h), hR.mono ?_⟩
    clear hR hy c0 c1
    rintro e' W3 ⟨F3, hm, hh⟩
    have hn3 : Hid (∀ k, F3 k → F k ∨ g < k) := fun k hk => by
      rcases hm.new k hk with h | h
      · exact hN.out k h
      · have := lt_of_heap hS.out; exact .inr (by omega)
    have hng3 : ¬ F3 g := fun h => by
      rcases hn3.out g h with h | h
      · have := hFl g h; have := hg.out; omega
      · omega
    have hk3 : Hid (Keep F W W3) := hK.out.trans hm.keep fun k hk hf => by
      rcases hN.out k hf with h | h
      · exact h
      · have := hg.out; omega
    have hS3 := hS.out.keep hm.keep hng
    have c0 := hS3.c0
    have c1 := hS3.c1
    have hq3 : W3.cell? ⟨q, 0, none⟩ = some (.int .i64 (i : Int)) := by
      have hb := hk3.out.block q (by omega) (fun h => hFC q h (.inr rfl))
      exact (World.cell?_of_block (a := ⟨q, 0, none⟩) hb).trans hq1
    rcases hh with ⟨rfl, hJ3⟩ | ⟨rfl, hX3⟩
    · have i1 := slen_nat b e (by omega) (by omega) W3
      by_cases h1 : 1 < e - b
      · have h1' : (1 : Int) < ((e - b : Nat) : Int) := by omega
        gi_wp2
        refine ⟨trivial, fun h => (by cases h), (callsIn_wide.2 i1).mono ?_⟩
        clear i1 c0 c1
        rintro r W4 ⟨rfl, hb4⟩
        have hS4 := hS3.below hb4
        have c0 := hS4.c0
        have c1 := hS4.c1
        have hq4 : W4.cell? ⟨q, 0, none⟩ = some (.int .i64 (i : Int)) := (hb4.cell (p := ⟨q, 0, none⟩) (World.block_lt_of_cell? W3 ⟨q, 0, none⟩ hq3)).trans hq3
        have i2 := toward_any b e i (by omega) (by omega) W4
        gi_wp2
        refine ⟨trivial, fun h => (by cases h), (callsIn_wide.2 i2).mono ?_⟩
        clear i2 c0 c1
        rintro r W5 ⟨rfl, hb5⟩
        have hS5 := hS4.below hb5
        have c0 := hS5.c0
        have c1 := hS5.c1
        have f0 := hS5.f0
        have f1 := hS5.f1
        have hs2 : Hid ((Tree.twd i (b, e)).1 ≤ i ∧ i < (Tree.twd i (b, e)).2 ∧ b ≤ (Tree.twd i (b, e)).1 ∧ (Tree.twd i (b, e)).2 ≤ e ∧ (Tree.twd i (b, e)).2 - (Tree.twd i (b, e)).1 < e - b) := by
          have s1 := Tree.sp_lt (n := e - b) (by omega)
          have s2 := Tree.sp_pos (n := e - b) (by omega)
          unfold Hid Tree.twd
          by_cases h : i < b + Tree.sp (e - b)
          · simp only [if_pos h]; omega
          · simp only [if_neg h]; omega
        have hr2 : Hid (rest = Tree.wayF (f - 1) (Tree.twd i (b, e)).1 ((Tree.twd i (b, e)).2 - (Tree.twd i (b, e)).1) i) := by
          have hf := hf.out
          have hr := hr.out
          obtain ⟨f', rfl⟩ : ∃ f', f = f' + 1 := ⟨f - 1, by omega⟩
          unfold Hid
          rw [Nat.add_sub_cancel]
          unfold Tree.twd
          by_cases h : i < b + Tree.sp (e - b)
          · rw [Tree.wayF_left (by omega) h] at hr
            simp only [if_pos h]
            rw [show b + Tree.sp (e - b) - b = Tree.sp (e - b) by omega]
            injection hr with _ hr
            exact hr.symm
          · rw [Tree.wayF_right (by omega) h] at hr
            simp only [if_neg h]
            rw [show e - (b + Tree.sp (e - b)) = e - b - Tree.sp (e - b) by omega]
            injection hr with _ hr
            exact hr.symm
        generalize (Tree.twd i (b, e)).1 = b2 at *
        generalize (Tree.twd i (b, e)).2 = e2 at *
        gi_wp2
        go_roundw
        case rel =>
          refine ⟨pre ++ [(b, e)], f - 1, b2, e2, F3, ?_, ?_, hs2.out.1, hs2.out.2.1, by have := hs2.out; omega, hS5.two _ _, ?_, ?_, hn3⟩
          · unfold Hid; rw [hx.out, hr.out, hr2.out, List.append_assoc]; rfl
          · unfold Hid; have := hs2.out; have := hf.out; omega
          · exact fJ.keep _ _ _ _ (fun k => k = g) (fJ.keep _ _ _ _ (fun _ => False) hJ3 (Keep.ofBelow (hb4.trans (hb5.mono hb4.size))) (fun _ _ h => h)) ((Keep.ofSet (S := fun k => k = g) _ g 0 _ rfl).trans (Keep.ofSet (S := fun k => k = g) _ g 1 _ rfl) fun _ _ h => h) (fun k hk h => hng3 (h ▸ hk))
          · exact ((hk3.out.trans (Keep.ofBelow (S := F) (hb4.trans (hb5.mono hb4.size))) fun _ _ h => h).trans (Keep.ofSet (S := fun k => k = g) _ g 0 _ rfl) fun k hk h => by have := hg.out; omega).trans (Keep.ofSet (S := fun k => k = g) _ g 1 _ rfl) fun k hk h => by have := hg.out; omega
        case measure =>
          have h5 := (hS5.two (b2 : Int) (e2 : Int))
          have e1 : memN ((W5.setCell ⟨g, 0, none⟩ (.int .i64 (b2 : Int))).setCell ⟨g, 1, none⟩ (.int .i64 (e2 : Int))) g 1 = e2 := by unfold memN; rw [h5.c1]; exact Int.toNat_natCast _
          have e0 : memN ((W5.setCell ⟨g, 0, none⟩ (.int .i64 (b2 : Int))).setCell ⟨g, 1, none⟩ (.int .i64 (e2 : Int))) g 0 = b2 := by unfold memN; rw [h5.c0]; exact Int.toNat_natCast _
          have d1 : memN wr g 1 = e := by unfold memN; rw [hS.out.c1]; exact Int.toNat_natCast _
          have d0 : memN wr g 0 = b := by unfold memN; rw [hS.out.c0]; exact Int.toNat_natCast _
          rw [e1, e0, d1, d0]
          exact hs2.out.2.2.2.2
      · have h1' : ¬ (1 : Int) < ((e - b : Nat) : Int) := by omega
        gi_wp2
        refine ⟨trivial, fun h => (by cases h), (callsIn_wide.2 i1).mono ?_⟩
        clear i1 c0 c1
        rintro r W4 ⟨rfl, hb4⟩
        gi_wp2
        go_end0
        refine ⟨⟨_, rfl⟩, F3, ?_, fun k hk => ?_, .inl ?_⟩
        · exact (hk3.out.trans (Keep.ofBelow (S := F) hb4) fun _ _ h => h).mono fun k _ h => .inl h
        · rcases hn3.out k hk with h | h
          · exact .inl h
          · exact .inr (by have := hg.out; omega)
        · have e1 : rest = [] := by
            have hf := hf.out
            have hr := hr.out
            obtain ⟨f', rfl⟩ : ∃ f', f = f' + 1 := ⟨f - 1, by omega⟩
            rw [Tree.wayF_one (by omega)] at hr
            injection hr with _ hr
            exact hr.symm
          rw [hx.out, hr.out, e1]
          exact fJ.keep _ _ _ _ (fun _ => False) hJ3 (Keep.ofBelow hb4) (fun _ _ h => h)
    · gi_wp2
      refine ⟨trivial, ?_⟩
      gi_wp2
      go_end0
      refine ⟨⟨_, rfl⟩, F3, hk3.out.mono fun k _ h => .inl h, fun k hk => ?_, .inr ⟨pre ++ [(b, e)], ⟨rest, ?_⟩, hX3⟩⟩
      · rcases hn3.out k hk with h | h
        · exact .inl h
        · exact .inr (by have := hg.out; omega)
      · rw [hx.out, hr.out, List.append_assoc]; rfl
end Go.Proofs.YtbodgecbakcaaaaGreatDoor

namespace Go.Proofs.YtbodgecbakcaaaaGreatDoor
open Go.RowKit Go.Shelf
attribute [local go_sem] Oper.semAt_some
theorem _root_.Go.Boxed.keepF {W W' : World} {B : Nat} {t : TypeId} {v : Value} {S : Nat → Prop} (h : Boxed W B t v) (hk : Keep S W W') (hs : ¬ S B) : Boxed W' B t v := (hk.block B h.lt hs).trans h
theorem Mvs.alloc (F : Nat → Prop) (W : World) (o : Obj) : Mvs F W (W.alloc o) (fun k => F k ∨ k = W.heap.size) :=
  ⟨Keep.ofBelow ((Below.refl _ _).alloc (Nat.le_refl _) _), fun k hk => by rcases hk with h | h; exact .inl h; exact .inr (by omega)⟩
theorem Keep.belowOf {S : Nat → Prop} {B : Nat} {w w' : World} (h : Keep S w w') (hB : B ≤ w.heap.size) (hS : ∀ k, S k → B ≤ k) : Below B w w' :=
  ⟨h.os, h.tape, h.output, h.size, fun k hk => h.block k (by omega) fun e => by have := hS k e; omega⟩
end Go.Proofs.YtbodgecbakcaaaaGreatDoor

namespace Go.Proofs.YtbodgecbakcaaaaGreatDoor
open Go.RowKit
theorem run_append_S {P : Program} (w : World) (base : Nat) (t tx ty e : TypeId) (i : TypeInfo) (z : Value) (ht : P.underlying t = some (.slice e)) (hi : P.info? e = some i) (hz : i.zero = some z)
    (hsize : i.size = 1) (hzs : z.cells.size = 1) (v : Value) (cs : List Value) (hown : Own w base v cs) (x : Value) (n : Nat) (news : List Value) (hs : Src P 1 tx x n news w)
    (hbytes : (cs.length + n) * i.bytes ≤ 140737488355328) (h63 : cs.length + n ≤ maxLen) (hbase : base ≤ w.heap.size) (hpos : v = .slice none 0 0 → 0 < n) :
    ∃ v' w', (Builtin.append_ #[t, tx] ty #[v, x]).run P w = .ok v' w' ∧ Own w' base v' (cs ++ news) ∧ w.grownBy w' v.ownBlock ∧ (v'.ownBlock = v.ownBlock ∨ (v'.ownBlock = some w.heap.size ∧ ∀ k, k < w.heap.size → w'.heap[k]? = w.heap[k]?)) := by
  have hn : news.length = n := by simpa using hs.newsLen
  have h63' : cs.length + n ≤ 9223372036854775807 := by simp only [maxLen] at h63; omega
  -- the arm that grows
  have grow : ∀ (b : Option Addr) (old : Nat), old < cs.length + n → v = .slice b cs.length old → (Builtin.firstCells 1 cs.length (.slice b cs.length old)).run P w.drew = .ok cs.toArray w.drew →
      ∃ v' w', (Builtin.append_ #[t, tx] ty #[v, x]).run P w = .ok v' w' ∧ Own w' base v' (cs ++ news) ∧ w.grownBy w' v.ownBlock ∧ (v'.ownBlock = v.ownBlock ∨ (v'.ownBlock = some w.heap.size ∧ ∀ k, k < w.heap.size → w'.heap[k]? = w.heap[k]?)) := by
    intro b old ho hv hold
    have hr := run_append_grow_src (P := P) w t tx ty e i z ht hi hz b cs.length old cs (by rw [hsize]; exact hold) x n news (by rw [hsize]; exact hs) ho (by omega) (growslice_fits ho hbytes)
    have hge := grownCap_ge w (cs.length + n) old e
    have hcm : grownCap w (cs.length + n) old e ≤ maxLen := grownCap_le_maxLen w (cs.length + n) old e h63
    have hnew : (w.drew.alloc (.cells ((cs ++ news).toArray ++ Builtin.zeroCells z.cells (grownCap w (cs.length + n) old e - (cs.length + n))) e)).heap[w.heap.size]? = some (.cells ((cs ++ news).toArray ++ Builtin.zeroCells z.cells (grownCap w (cs.length + n) old e - (cs.length + n))) e (0, 0)) := heap_alloc_new w.drew _
    refine ⟨.slice (some ⟨w.heap.size, 0, none⟩) (cs.length + n) (grownCap w (cs.length + n) old e), w.drew.alloc (.cells ((cs ++ news).toArray ++ Builtin.zeroCells z.cells (grownCap w (cs.length + n) old e - (cs.length + n))) e), by rw [hv]; exact hr, .inr ⟨w.heap.size, grownCap w (cs.length + n) old e, by rw [List.length_append, hn], hbase, by rw [List.length_append, hn]; exact hge, hcm, ?_, ?_, ?_⟩, ⟨rfl, rfl, rfl, by rw [size_alloc]; exact Nat.le_succ w.heap.size, fun k hk _ => Below.heap_alloc w.drew _ k hk⟩, .inr ⟨rfl, fun k hk => Below.heap_alloc w.drew _ k hk⟩⟩
    · intro j u hj
      rw [cell_of_row _ _ _ _ _ _ hnew, Nat.zero_add]
      have hj' : j < (cs ++ news).length := (List.getElem?_eq_some_iff.1 hj).1
      rw [Array.getElem?_append_left (by simpa using hj')]
      simpa using hj
    · refine there_of_row hnew 0 _ ?_
      simp only [Array.size_append, List.size_toArray, size_zeroCells, hzs, List.length_append, hn]
      omega
    · rw [size_alloc]; exact Nat.lt_succ_self _
  rcases hown with ⟨rfl, rfl⟩ | ⟨g, cap, rfl, h1, h2, h3, h4, h5, h6⟩
  · exact grow none 0 (by have := hpos rfl; simp; omega) rfl (run_firstCells_none w.drew 1 0 0 0)
  · by_cases hroom : cs.length + n ≤ cap
    · have hr := run_append_room_src (P := P) w t tx ty e i ht hi g 0 cs.length cap x n news (by rw [hsize]; exact hs) hroom
        (fun j hj => by rw [hsize, Nat.mul_one]; exact by have := (h5 (cs.length + j) (by omega)).1; simpa [Nat.add_assoc] using this)
        (fun j hj => by rw [hsize, Nat.mul_one]; exact by have := (h5 (cs.length + j) (by omega)).2; simpa [Nat.add_assoc] using this)
      rw [hsize, Nat.mul_one, Nat.zero_add] at hr
      have ht' : w.there g cs.length news.length := fun j hj => by have := h5 (cs.length + j) (by omega); simpa using this
      refine ⟨_, _, hr, .inr ⟨g, cap, by rw [List.length_append, hn], h1, by rw [List.length_append, hn]; exact hroom, h3, ?_, World.there_setCells h5 _ _ _, ?_⟩, ?_, .inl rfl⟩
      · intro j u hj
        by_cases hjl : j < cs.length
        · rw [List.getElem?_append_left hjl] at hj
          exact World.rangeAt_setCells_apart h4 g cs.length news (.inr (.inl (by omega))) j u hj
        · rw [List.getElem?_append_right (by omega)] at hj
          have := World.rangeAt_setCells_same w g cs.length news ht' (j - cs.length) u hj
          rwa [show cs.length + (j - cs.length) = 0 + j from by omega] at this
      · have := (But.setCells news cs.length (But.refl g w)).size; omega
      · have hb := But.setCells news cs.length (But.refl g w)
        exact ⟨hb.os, hb.tape, hb.output, hb.size, fun k hk hne => hb.block k hk (fun e => hne (by rw [e]; rfl))⟩
    · refine grow (some ⟨g, 0, none⟩) cap (by omega) rfl ?_
      exact run_firstCells_some w.drew 1 cs.length ⟨g, 0, none⟩ cs.length cap cs (by simp) (fun j u hj => by rw [Addr.add_mid]; exact h4 j u hj)
structure Grow (w w' : World) (v v' : Value) : Prop where
  os : w'.os = w.os
  tape : w'.tape = w.tape
  output : w'.output = w.output
  size : w.heap.size ≤ w'.heap.size
  old : ∀ k, k < w.heap.size → v.ownBlock ≠ some k → w'.heap[k]? = w.heap[k]?
  alt : v'.ownBlock = v.ownBlock ∨ ((∀ k, v'.ownBlock = some k → w.heap.size ≤ k) ∧ ∀ k, k < w.heap.size → w'.heap[k]? = w.heap[k]?)
theorem Grow.keep {w w' : World} {v v' : Value} (h : Grow w w' v v') : Keep (fun k => v.ownBlock = some k) w w' := ⟨h.os, h.tape, h.output, h.size, h.old⟩
theorem append_one (t e : TypeId) (z : Value) (by_ : Nat) (hb24 : by_ ≤ 24) (hu : Tryz.prog.underlying t = some (.slice e)) (hinfo : (Tryz.prog.info? e).map (fun i => (i.zero, i.size, i.bytes)) = some (some z, 1, by_)) (hzs : z.cells.size = 1)
    (w : World) (base : Nat) (v : Value) (cs : List Value) (x : Value) (hx : x.oneCell' = true) (hown : Own w base v cs) (hlen : cs.length ≤ 2000000) (hbase : base ≤ w.heap.size) :
    ∃ v' w', (Builtin.append_ #[t, t] t #[v, .slice (some ⟨w.heap.size, 0, none⟩) 1 1]).run Tryz.prog (w.alloc (.cells #[x] e)) = .ok v' w' ∧ Own w' base v' (cs ++ [x]) ∧ Grow w w' v v' := by
  obtain ⟨i0, hi, hz0, hz1, hz2⟩ := info_parts hinfo
  have hsrc : Src Tryz.prog 1 t (.slice (some ⟨w.heap.size, 0, none⟩) 1 1) 1 [x] (w.alloc (.cells #[x] e)) :=
    Src.ofSlice _ hu ⟨w.heap.size, 0, none⟩ 1 1 [x] (by simp) (fun j u hj => by
      rw [Addr.add_mid, cell_of_row _ _ _ _ _ _ (heap_alloc_new w _), Nat.zero_add]; simpa using hj) (fun u hu => by simp at hu; subst hu; exact hx)
  obtain ⟨v', w', h1, h2, h3, h4⟩ := run_append_S (P := Tryz.prog) (w.alloc (.cells #[x] e)) base t t t e i0 z hu hi hz0 hz1 hzs v cs (hown.alloc _) _ 1 [x] hsrc
    (by rw [hz2]; exact Nat.le_trans (Nat.mul_le_mul (show cs.length + 1 ≤ 2000001 by omega) hb24) (by decide)) (by rw [maxLen]; omega) (by rw [size_alloc]; omega) (fun _ => by omega)
  have hs := h3.size
  rw [size_alloc] at hs
  refine ⟨v', w', h1, h2, ⟨h3.os, h3.tape, h3.output, by omega, fun k hk hne => (h3.block k (by rw [size_alloc]; omega) (Ne.symm hne)).trans (Below.heap_alloc w _ k hk), ?_⟩⟩
  rcases h4 with h4 | ⟨h4, h5⟩
  · exact .inl h4
  · refine .inr ⟨fun k hk => ?_, fun k hk => (h5 k (by rw [size_alloc]; omega)).trans (Below.heap_alloc w _ k hk)⟩
    rw [h4, size_alloc] at hk
    injection hk with hk
    omega
theorem infoI3 : (Tryz.prog.info? 3).map (fun i => (i.zero, i.size, i.bytes)) = some (some (.int .i64 0), 1, 8) := by kernel_rfl
def mrk (i : Nat) : List UInt8 := [109, 97, 114, 107, UInt8.ofNat i, 0]
theorem mark_at (n : Nat) (hn : n ≤ 255) (w : World) :
    Calls Tryz.prog 46 #[.int .i64 n] w fun e w' => e = .returned (sv (mrk n)) ∧ Below w.heap.size w w' := by
  refine (mark_any n hn w).mono ?_
  rintro e w' ⟨m, rfl, hm, hb⟩
  refine ⟨?_, hb⟩
  unfold mrk
  rw [← hm]
  cases m
  rfl
end Go.Proofs.YtbodgecbakcaaaaGreatDoor

namespace Go.Proofs.YtbodgecbakcaaaaGreatDoor
open Go.RowKit
abbrev Mu := Nat → Option (Nat × Nat)
def En (μ : Mu) (i : Nat) (s : Value) : Prop := s = .slice none 0 0 ∨ ∃ g n c ℓ, s = .slice (some ⟨g, 0, none⟩) n c ∧ n ≤ ℓ ∧ ℓ ≤ 2000000 ∧ μ g = some (i, ℓ)
def Bs (X : Nat) (vl vg vh : Value) (k : Nat) : Prop := k = X ∨ vl.ownBlock = some k ∨ vg.ownBlock = some k ∨ vh.ownBlock = some k
def ins (l : List Nat) : List Value := l.map fun (n : Nat) => Value.int .i64 (n : Int)
structure St (w : World) (X base : Nat) (vl vg vh : Value) (us GS : List Value) (HS : List Nat) (μ : Mu) : Prop where
  row : w.heap[X]? = some (.cells #[.slice none 0 0, .slice none 0 0, vl, vg, vh] 51 (0, 0))
  lists : Own w base vl us
  grown : Own w base vg GS
  whose : Own w base vh (ins HS)
  dX : ∀ k, vl.ownBlock = some k ∨ vg.ownBlock = some k ∨ vh.ownBlock = some k → k ≠ X
  d1 : ∀ k, vl.ownBlock = some k → vg.ownBlock ≠ some k ∧ vh.ownBlock ≠ some k
  d2 : ∀ k, vg.ownBlock = some k → vh.ownBlock ≠ some k
  mkd : ∀ g i ℓ, μ g = some (i, ℓ) → base ≤ g ∧ g < w.heap.size ∧ ¬ Bs X vl vg vh g ∧ ∀ j, j < ℓ → w.cell? ⟨g, j, none⟩ = some (sv (mrk i))
  lst : ∀ (i : Nat) (u : Value), us[i]? = some u → En μ i u
  grn : ∀ (j : Nat) (s : Value) (i : Nat), GS[j]? = some s → HS[j]? = some i → En μ i s
  hs : ∀ i ∈ HS, i < us.length
theorem St.lt {w : World} {X base : Nat} {vl vg vh : Value} {us GS : List Value} {HS : List Nat} {μ : Mu} (h : St w X base vl vg vh us GS HS μ) {k : Nat} (hk : Bs X vl vg vh k) : k < w.heap.size := by
  rcases hk with rfl | hk | hk | hk
  · exact lt_of_heap h.row
  · exact h.lists.lt k hk
  · exact h.grown.lt k hk
  · exact h.whose.lt k hk
theorem Own.same {w w' : World} {base : Nat} {v : Value} {cs : List Value} (h : Own w base v cs) (hs : w.heap.size ≤ w'.heap.size) (hb : ∀ k, v.ownBlock = some k → w'.heap[k]? = w.heap[k]?) : Own w' base v cs := h.kept hs hb
theorem St.world {w w' : World} {X base : Nat} {vl vg vh : Value} {us GS : List Value} {HS : List Nat} {μ : Mu} (h : St w X base vl vg vh us GS HS μ) (hs : w.heap.size ≤ w'.heap.size)
    (hb : ∀ k, k < w.heap.size → (Bs X vl vg vh k ∨ (μ k).isSome = true) → w'.heap[k]? = w.heap[k]?) : St w' X base vl vg vh us GS HS μ where
  row := (hb X (lt_of_heap h.row) (.inl (.inl rfl))).trans h.row
  lists := h.lists.same hs fun k hk => hb k (h.lists.lt k hk) (.inl (.inr (.inl hk)))
  grown := h.grown.same hs fun k hk => hb k (h.grown.lt k hk) (.inl (.inr (.inr (.inl hk))))
  whose := h.whose.same hs fun k hk => hb k (h.whose.lt k hk) (.inl (.inr (.inr (.inr hk))))
  dX := h.dX
  d1 := h.d1
  d2 := h.d2
  mkd := fun g i ℓ hm => by
    obtain ⟨h0, h1, h2, h3⟩ := h.mkd g i ℓ hm
    refine ⟨h0, Nat.lt_of_lt_of_le h1 hs, h2, fun j hj => ?_⟩
    rw [← h3 j hj]
    exact World.cell?_of_block (w := w) (hb g h1 (.inr (by rw [hm]; rfl)))
  lst := h.lst
  grn := h.grn
  hs := h.hs
theorem St.below {w w' : World} {X base : Nat} {vl vg vh : Value} {us GS : List Value} {HS : List Nat} {μ : Mu} (h : St w X base vl vg vh us GS HS μ) (hb : Below w.heap.size w w') : St w' X base vl vg vh us GS HS μ :=
  h.world hb.size fun k hk _ => hb.block k hk
structure Xs (w : World) (base : Nat) (x : Value) (i ℓ : Nat) (μ : Mu) : Prop where
  own : Own w base x (svs (List.replicate ℓ (mrk i)))
  mrkd : ∀ g, x.ownBlock = some g → μ g = some (i, ℓ)
  en : En μ i x
theorem own_cases {w : World} {base : Nat} {v : Value} {cs : List Value} (h : Own w base v cs) : (v = .slice none 0 0 ∧ cs = []) ∨ ∃ g c, v = .slice (some ⟨g, 0, none⟩) cs.length c ∧ v.ownBlock = some g := by
  rcases h with ⟨rfl, rfl⟩ | ⟨g, c, rfl, _⟩
  · exact .inl ⟨rfl, rfl⟩
  · exact .inr ⟨g, c, rfl, rfl⟩
theorem own_cell {w : World} {base : Nat} {v : Value} {cs : List Value} (h : Own w base v cs) {g : Nat} (hg : v.ownBlock = some g) {j : Nat} {x : Value} (hj : cs[j]? = some x) : w.cell? ⟨g, j, none⟩ = some x := by
  rcases h with ⟨rfl, rfl⟩ | ⟨g', c, rfl, _, _, _, h4, _, _⟩
  · simp at hj
  · cases hg
    have := h4 j x hj
    rwa [Nat.zero_add] at this
theorem St.growX {w w' : World} {X base : Nat} {vl vg vh : Value} {us GS : List Value} {HS : List Nat} {μ : Mu} (h : St w X base vl vg vh us GS HS μ) {x x' : Value} {i ℓ : Nat} (hx : Xs w base x i ℓ μ) (hℓ : ℓ + 1 ≤ 2000000)
    (hg : Grow w w' x x') (ho : Own w' base x' (svs (List.replicate (ℓ + 1) (mrk i)))) :
    ∃ μ', St w' X base vl vg vh us GS HS μ' ∧ Xs w' base x' i (ℓ + 1) μ' ∧ (∀ g j m, μ g = some (j, m) → j ≠ i → μ' g = some (j, m)) ∧ (∀ g j m, μ' g = some (j, m) → j ≠ i → μ g = some (j, m)) := by
  have hnew : ∀ k, x'.ownBlock = some k → x.ownBlock = some k ∨ w.heap.size ≤ k := fun k hk => by
    rcases hg.alt with e | ⟨e, _⟩
    · left; rw [← e]; exact hk
    · right; exact e k hk
  have hxB : ∀ k, x.ownBlock = some k → ¬ Bs X vl vg vh k := fun k hk => (h.mkd k i ℓ (hx.mrkd k hk)).2.2.1
  have hxB' : ∀ k, x'.ownBlock = some k → ¬ Bs X vl vg vh k := fun k hk hB => by
    rcases hnew k hk with e | e
    · exact hxB k e hB
    · have := h.lt hB; omega
  have hkeep : ∀ k, k < w.heap.size → x'.ownBlock ≠ some k → w'.heap[k]? = w.heap[k]? := fun k hk hne => by
    rcases hg.alt with e | ⟨_, e⟩
    · exact hg.old k hk (e ▸ hne)
    · exact e k hk
  have hBk : ∀ k, Bs X vl vg vh k → w'.heap[k]? = w.heap[k]? := fun k hB => hkeep k (h.lt hB) fun e => hxB' k e hB
  obtain ⟨μ', hμ⟩ : ∃ μ' : Mu, ∀ k, μ' k = if x'.ownBlock = some k then some (i, ℓ + 1) else μ k := ⟨fun k => if x'.ownBlock = some k then some (i, ℓ + 1) else μ k, fun k => rfl⟩
  have hup : ∀ g j m, μ g = some (j, m) → x'.ownBlock = some g → j = i ∧ m = ℓ := fun g j m hm hxg => by
    rcases hnew g hxg with e | e
    · have := hx.mrkd g e
      rw [hm] at this
      injection this with this
      exact ⟨congrArg Prod.fst this, congrArg Prod.snd this⟩
    · have := (h.mkd g j m hm).2.1; omega
  have hmono : ∀ g j m, m ≤ 2000000 → μ g = some (j, m) → ∃ m', m ≤ m' ∧ m' ≤ 2000000 ∧ μ' g = some (j, m') := fun g j m hm2 hm => by
    by_cases e : x'.ownBlock = some g
    · obtain ⟨rfl, rfl⟩ := hup g j m hm e
      exact ⟨m + 1, by omega, hℓ, by rw [hμ, if_pos e]⟩
    · exact ⟨m, Nat.le_refl _, hm2, by rw [hμ, if_neg e]; exact hm⟩
  have hen : ∀ j s, En μ j s → En μ' j s := fun j s he => by
    rcases he with rfl | ⟨g, n, c, m, rfl, h1, h2, h3⟩
    · exact .inl rfl
    · obtain ⟨m', a, b, c'⟩ := hmono g j m h2 h3
      exact .inr ⟨g, n, c, m', rfl, by omega, b, c'⟩
  refine ⟨μ', ⟨(hBk X (.inl rfl)).trans h.row, h.lists.same hg.size fun k hk => hBk k (.inr (.inl hk)), h.grown.same hg.size fun k hk => hBk k (.inr (.inr (.inl hk))), h.whose.same hg.size fun k hk => hBk k (.inr (.inr (.inr hk))), h.dX, h.d1, h.d2, fun g j m hm => ?_, fun j u hu => hen j u (h.lst j u hu), fun j s k h1 h2 => hen k s (h.grn j s k h1 h2), h.hs⟩, ⟨ho, fun g hxg => by rw [hμ, if_pos hxg], ?_⟩, fun g j m hm hne => ?_, fun g j m hm hne => ?_⟩
  · by_cases e : x'.ownBlock = some g
    · rw [hμ, if_pos e] at hm
      injection hm with hm
      obtain ⟨rfl, rfl⟩ : i = j ∧ ℓ + 1 = m := ⟨congrArg Prod.fst hm, congrArg Prod.snd hm⟩
      refine ⟨ho.ge g e, ho.lt g e, hxB' g e, fun t ht => own_cell ho e ?_⟩
      rw [svs, List.getElem?_map, List.getElem?_replicate, if_pos ht]; rfl
    · rw [hμ, if_neg e] at hm
      obtain ⟨a0, a1, a2, a3⟩ := h.mkd g j m hm
      refine ⟨a0, Nat.lt_of_lt_of_le a1 hg.size, a2, fun t ht => ?_⟩
      rw [← a3 t ht]
      exact World.cell?_of_block (w := w) (hkeep g a1 e)
  · rcases own_cases ho with ⟨rfl, _⟩ | ⟨g, c, e1, e2⟩
    · exact .inl rfl
    · exact .inr ⟨g, _, c, ℓ + 1, e1, by rw [svs_length, List.length_replicate]; exact Nat.le_refl _, hℓ, by rw [hμ, if_pos e2]⟩
  · rw [hμ, if_neg]
    · exact hm
    · intro e
      exact hne (hup g j m hm e).1
  · by_cases e : x'.ownBlock = some g
    · rw [hμ, if_pos e] at hm
      injection hm with hm
      exact absurd (congrArg Prod.fst hm).symm hne
    · rwa [hμ, if_neg e] at hm
theorem St.growG {w w' : World} {X base : Nat} {vl vg vh vg' : Value} {us GS : List Value} {HS : List Nat} {μ : Mu} (h : St w X base vl vg vh us GS HS μ) {s : Value} (hl : GS.length = HS.length) (hg : Grow w w' vg vg') (ho : Own w' base vg' (GS ++ [s])) :
    St (w'.setCell ⟨X, 3, none⟩ vg') X base vl vg' vh us (GS ++ [s]) HS μ := by
  have hnew : ∀ k, vg'.ownBlock = some k → vg.ownBlock = some k ∨ w.heap.size ≤ k := fun k hk => by
    rcases hg.alt with e | ⟨e, _⟩
    · left; rw [← e]; exact hk
    · right; exact e k hk
  have hX := lt_of_heap h.row
  have hgX : vg.ownBlock ≠ some X := fun e => h.dX X (.inr (.inl e)) rfl
  have hgX' : ∀ k, vg'.ownBlock = some k → k ≠ X := fun k hk => by
    rcases hnew k hk with e | e
    · exact h.dX k (.inr (.inl e))
    · omega
  have row1 := (hg.old X hX hgX).trans h.row
  have row2 : (w'.setCell ⟨X, 3, none⟩ vg').heap[X]? = some (.cells #[.slice none 0 0, .slice none 0 0, vl, vg', vh] 51 (0, 0)) := heap_setCell_same w' X 3 _ _ vg' row1
  have hset : ∀ k, k ≠ X → (w'.setCell ⟨X, 3, none⟩ vg').heap[k]? = w'.heap[k]? := fun k hk => Below.heap_setCell w' _ vg' k hk
  have hsz : (w'.setCell ⟨X, 3, none⟩ vg').heap.size = w'.heap.size := by simp [World.setCell]
  have hk2 : ∀ k, k < w.heap.size → k ≠ X → vg.ownBlock ≠ some k → (w'.setCell ⟨X, 3, none⟩ vg').heap[k]? = w.heap[k]? := fun k h1 h2 h3 => (hset k h2).trans (hg.old k h1 h3)
  refine ⟨row2, h.lists.same (by rw [hsz]; exact hg.size) fun k hk => hk2 k (h.lists.lt k hk) (h.dX k (.inl hk)) (h.d1 k hk).1, ho.same (by rw [hsz]; exact Nat.le_refl _) fun k hk => hset k (hgX' k hk), h.whose.same (by rw [hsz]; exact hg.size) fun k hk => hk2 k (h.whose.lt k hk) (h.dX k (.inr (.inr hk))) (fun e => h.d2 k e hk), fun k hk => ?_, fun k hk => ⟨fun e => ?_, (h.d1 k hk).2⟩, fun k hk e => ?_, fun g i ℓ hm => ?_, h.lst, fun j t i h1 h2 => ?_, h.hs⟩
  · rcases hk with hk | hk | hk
    · exact h.dX k (.inl hk)
    · exact hgX' k hk
    · exact h.dX k (.inr (.inr hk))
  · rcases hnew k e with e' | e'
    · exact (h.d1 k hk).1 e'
    · have := h.lists.lt k hk; omega
  · rcases hnew k hk with e' | e'
    · exact h.d2 k e' e
    · have := h.whose.lt k e; omega
  · obtain ⟨a0, a1, a2, a3⟩ := h.mkd g i ℓ hm
    refine ⟨a0, by rw [hsz]; exact Nat.lt_of_lt_of_le a1 hg.size, fun hB => ?_, fun t ht => ?_⟩
    · rcases hB with e | e | e | e
      · exact a2 (.inl e)
      · exact a2 (.inr (.inl e))
      · rcases hnew g e with e' | e'
        · exact a2 (.inr (.inr (.inl e')))
        · omega
      · exact a2 (.inr (.inr (.inr e)))
    · rw [← a3 t ht]
      exact World.cell?_of_block (w := w) (hk2 g a1 (fun e => a2 (.inl e)) fun e => a2 (.inr (.inr (.inl e))))
  · have hj : j < HS.length := (List.getElem?_eq_some_iff.1 h2).1
    rw [List.getElem?_append_left (by omega)] at h1
    exact h.grn j t i h1 h2
theorem St.growH {w w' : World} {X base : Nat} {vl vg vh vh' : Value} {us GS : List Value} {HS : List Nat} {μ : Mu} {s : Value} {i : Nat} (h : St w X base vl vg vh us (GS ++ [s]) HS μ) (hl : GS.length = HS.length) (hi : i < us.length) (he : En μ i s) (hg : Grow w w' vh vh') (ho : Own w' base vh' (ins HS ++ [.int .i64 (i : Int)])) :
    St (w'.setCell ⟨X, 4, none⟩ vh') X base vl vg vh' us (GS ++ [s]) (HS ++ [i]) μ := by
  have hnew : ∀ k, vh'.ownBlock = some k → vh.ownBlock = some k ∨ w.heap.size ≤ k := fun k hk => by
    rcases hg.alt with e | ⟨e, _⟩
    · left; rw [← e]; exact hk
    · right; exact e k hk
  have hX := lt_of_heap h.row
  have hgX : vh.ownBlock ≠ some X := fun e => h.dX X (.inr (.inr e)) rfl
  have hgX' : ∀ k, vh'.ownBlock = some k → k ≠ X := fun k hk => by
    rcases hnew k hk with e | e
    · exact h.dX k (.inr (.inr e))
    · omega
  have row1 := (hg.old X hX hgX).trans h.row
  have row2 : (w'.setCell ⟨X, 4, none⟩ vh').heap[X]? = some (.cells #[.slice none 0 0, .slice none 0 0, vl, vg, vh'] 51 (0, 0)) := heap_setCell_same w' X 4 _ _ vh' row1
  have hset : ∀ k, k ≠ X → (w'.setCell ⟨X, 4, none⟩ vh').heap[k]? = w'.heap[k]? := fun k hk => Below.heap_setCell w' _ vh' k hk
  have hsz : (w'.setCell ⟨X, 4, none⟩ vh').heap.size = w'.heap.size := by simp [World.setCell]
  have hk2 : ∀ k, k < w.heap.size → k ≠ X → vh.ownBlock ≠ some k → (w'.setCell ⟨X, 4, none⟩ vh').heap[k]? = w.heap[k]? := fun k h1 h2 h3 => (hset k h2).trans (hg.old k h1 h3)
  refine ⟨row2, h.lists.same (by rw [hsz]; exact hg.size) fun k hk => hk2 k (h.lists.lt k hk) (h.dX k (.inl hk)) (h.d1 k hk).2, h.grown.same (by rw [hsz]; exact hg.size) fun k hk => hk2 k (h.grown.lt k hk) (h.dX k (.inr (.inl hk))) (h.d2 k hk), ?_, fun k hk => ?_, fun k hk => ⟨(h.d1 k hk).1, fun e => ?_⟩, fun k hk e => ?_, fun g j ℓ hm => ?_, h.lst, fun j t k h1 h2 => ?_, fun k hk => ?_⟩
  · have := ho.same (w' := w'.setCell ⟨X, 4, none⟩ vh') (by rw [hsz]; exact Nat.le_refl _) fun k hk => hset k (hgX' k hk)
    rwa [show ins (HS ++ [i]) = ins HS ++ [.int .i64 (i : Int)] by simp [ins]]
  · rcases hk with hk | hk | hk
    · exact h.dX k (.inl hk)
    · exact h.dX k (.inr (.inl hk))
    · exact hgX' k hk
  · rcases hnew k e with e' | e'
    · exact (h.d1 k hk).2 e'
    · have := h.lists.lt k hk; omega
  · rcases hnew k e with e' | e'
    · exact h.d2 k hk e'
    · have := h.grown.lt k hk; omega
  · obtain ⟨a0, a1, a2, a3⟩ := h.mkd g j ℓ hm
    refine ⟨a0, by rw [hsz]; exact Nat.lt_of_lt_of_le a1 hg.size, fun hB => ?_, fun t ht => ?_⟩
    · rcases hB with e | e | e | e
      · exact a2 (.inl e)
      · exact a2 (.inr (.inl e))
      · exact a2 (.inr (.inr (.inl e)))
      · rcases hnew g e with e' | e'
        · exact a2 (.inr (.inr (.inr e')))
        · omega
    · rw [← a3 t ht]
      exact World.cell?_of_block (w := w) (hk2 g a1 (fun e => a2 (.inl e)) fun e => a2 (.inr (.inr (.inr e))))
  · by_cases hj : j < HS.length
    · rw [List.getElem?_append_left hj] at h2
      exact h.grn j t k h1 h2
    · rw [List.getElem?_append_right (by omega)] at h2
      have hj0 : j - HS.length = 0 := by
        rcases Nat.eq_zero_or_pos (j - HS.length) with e | e
        · exact e
        · rw [List.getElem?_eq_none (by simp; omega)] at h2; cases h2
      rw [hj0] at h2
      obtain rfl := Option.some.inj h2
      rw [show j = GS.length from by omega, List.getElem?_append_right (Nat.le_refl _), Nat.sub_self] at h1
      obtain rfl := Option.some.inj h1
      exact he
  · rcases List.mem_append.1 hk with hk | hk
    · exact h.hs k hk
    · rw [List.mem_singleton] at hk; omega
theorem St.reads {w : World} {X base : Nat} {vl vg vh : Value} {us GS : List Value} {HS : List Nat} {μ : Mu} (h : St w X base vl vg vh us GS HS μ) {i : Nat} {s : Value} (he : En μ i s) : ∃ a n c, s = .slice a n c ∧ n ≤ 2000000 ∧ At w a (List.replicate n (mrk i)) := by
  rcases he with rfl | ⟨g, n, c, ℓ, rfl, h1, h2, h3⟩
  · exact ⟨none, 0, 0, rfl, by omega, At.nil _ _⟩
  · obtain ⟨a0, a1, a2, a3⟩ := h.mkd g i ℓ h3
    refine ⟨_, n, c, rfl, by omega, fun j p hp => ⟨_, rfl, a1, ?_⟩⟩
    rw [List.getElem?_replicate] at hp
    split at hp
    · obtain rfl := Option.some.inj hp
      rw [Addr.add_mid, Nat.zero_add]
      exact a3 j (by omega)
    · cases hp
end Go.Proofs.YtbodgecbakcaaaaGreatDoor
