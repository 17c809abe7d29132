import Derived.Test.YtblmaokonhdjaaaGreatDoorPkSP4
import Derived.RangeFuncBox
import Derived.Test.YtblmaokonhdjaaaGreatDoorPkO28
namespace Go.Proofs.YtblmaokonhdjaaaGreatDoor
open Go.RowKit Go.Shelf
attribute [local go_sem] Oper.semAt_some
theorem _root_.Go.Boxed.keepF {W W' : World} {B : Nat} {t : TypeId} {v : Value} {S : Nat → Prop} (h : Boxed W B t v) (hk : Keep S W W') (hs : ¬ S B) : Boxed W' B t v := (hk.block B h.lt hs).trans h
theorem _root_.Go.Boxed.belowF {W W' : World} {B : Nat} {t : TypeId} {v : Value} (h : Boxed W B t v) (hk : Below W.heap.size W W') : Boxed W' B t v := (hk.block B h.lt).trans h
theorem Mvs.alloc (F : Nat → Prop) (W : World) (o : Obj) : Mvs F W (W.alloc o) (fun k => F k ∨ k = W.heap.size) :=
  ⟨Keep.ofBelow ((Below.refl _ _).alloc (Nat.le_refl _) _), fun k hk => by rcases hk with h | h; exact .inl h; exact .inr (by omega)⟩
theorem Mvs.drop {F G H : Nat → Prop} {w w' : World} (h : Mvs F w w' G) (hs : ∀ k, H k → G k) : Mvs F w w' H := ⟨h.keep, fun k hk => h.new k (hs k hk)⟩
/-- the block of the loop's deferred calls is shut -/
theorem Aft.shut {F0 C F : Nat → Prop} {w W : World} {D : Nat} (h : Aft F0 C w W F D) (o : Obj) : Keep (fun k => F0 k ∨ C k) w (W.putObj D o) :=
  h.keep.trans (Keep.ofPut (S := fun k => k = D) _ _ _ rfl) fun j hj e => by have := h.hi; omega
theorem Keep.belowOf {S : Nat → Prop} {B : Nat} {w w' : World} (h : Keep S w w') (hB : B ≤ w.heap.size) (hS : ∀ k, S k → B ≤ k) : Below B w w' :=
  ⟨h.os, h.tape, h.output, h.size, fun k hk => h.block k (by omega) fun e => by have := hS k e; omega⟩
/-- H1 -/
def insB (n b e : Int) : Bool := decide (1 ≤ n ∧ n ≤ 1099511627776 ∧ 0 ≤ b ∧ b < n ∧ 0 ≤ e) && Tree.insF n.toNat 0 n.toNat b.toNat e.toNat
theorem insB_way {n b : Nat} {e : Int} (hn : 1 ≤ n) (hn2 : n ≤ 1099511627776) (hb : b < n) : insB n b e = true ↔ ∃ s ∈ Tree.wayF n 0 n b, (s.1 : Int) = b ∧ (s.2 : Int) = e := by
  unfold insB
  rw [Bool.and_eq_true, decide_eq_true_eq, Int.toNat_natCast, Int.toNat_natCast, Tree.wayF_ins n 0 n b e.toNat (Nat.le_refl _) (Nat.zero_le _) (by omega)]
  constructor
  · rintro ⟨h1, h2⟩
    exact ⟨_, h2, rfl, by show ((e.toNat : Nat) : Int) = e; omega⟩
  · rintro ⟨⟨x, y⟩, h1, h2, h3⟩
    have h2 : (x : Int) = b := h2
    have h3 : (y : Int) = e := h3
    obtain rfl : x = b := by omega
    subst h3
    exact ⟨by omega, by rw [Int.toNat_natCast]; exact h1⟩
def Nev (b e : Int) (l : List (Nat × Nat)) : Prop := ∀ s ∈ l, ¬ ((s.1 : Int) = b ∧ (s.2 : Int) = e)
def Onc (b e : Int) (l : List (Nat × Nat)) : Prop := ∃ s ∈ l, ((s.1 : Int) = b ∧ (s.2 : Int) = e)
theorem Nev.snoc {b e : Int} {l : List (Nat × Nat)} {x y : Nat} (h : Nev b e l) (hq : ¬ ((x : Int) = b ∧ (y : Int) = e)) : Nev b e (l ++ [(x, y)]) := fun s hs => by
  rcases List.mem_append.1 hs with h' | h'
  · exact h s h'
  · obtain rfl : s = (x, y) := by simpa using h'
    exact hq
theorem Onc.snoc {b e : Int} {l : List (Nat × Nat)} {x y : Nat} (hq : (x : Int) = b ∧ (y : Int) = e) : Onc b e (l ++ [(x, y)]) := ⟨(x, y), List.mem_append.2 (.inr (by simp)), hq⟩
set_option maxRecDepth 100000 in
set_option maxHeartbeats 4000000 in
theorem inside_any (n b e : Int) (w : World) : Calls Tryz.prog 101 #[.int .i64 n, sg b e] w fun r w' => r = .returned (.bool (insB n b e)) ∧ Below w.heap.size w w' := by
  refine (callsIn_wide (n := 9)).1 ?_
  have S0 := SpI.new w b e
  have c0 := S0.c0
  have c1 := S0.c1
  refine callsIn_of_wp_marks Tryz.func101 rfl trivial ?_ rfl
  simp only [Tryz.ntmps101, List.size_toArray, List.length_cons, List.length_nil, Nat.reduceAdd, Nat.reduceSub, Array.replicate_succ, Array.replicate_zero, List.push_toArray, List.append_toArray, List.nil_append, List.cons_append]
  by_cases hn : 1 ≤ n ∧ n ≤ 1099511627776
  · have i1 := fun w' => isSize_is n true (by simpa using hn) w'
    by_cases hb : 0 ≤ b ∧ b < n
    · have i2 := fun w' => isLeaf8_is n b true (by simpa using hb) w'
      obtain ⟨n, rfl⟩ := Int.eq_ofNat_of_zero_le (show 0 ≤ n by omega)
      obtain ⟨b, rfl⟩ := Int.eq_ofNat_of_zero_le hb.1
      gi_wp2
      refine ⟨trivial, (callsIn_wide.2 (i1 _)).mono ?_⟩
      rintro r w1 ⟨rfl, h1⟩
      have h1 := h1.symm
      subst h1
      gi_wp2
      refine ⟨trivial, (callsIn_wide.2 (i2 _)).mono ?_⟩
      rintro r w1 ⟨rfl, h1⟩
      have h1 := h1.symm
      subst h1
      gi_wp2
      refine ⟨trivial, (callsIn_wide.2 (way_any _ _ _)).mono ?_⟩
      rintro r w1 ⟨rfl, h1⟩
      have h1 := h1.symm
      subst h1
      gi_wp2
      clear i1 i2 c0 c1
      obtain ⟨W4, hW4⟩ : ∃ W4, Hid (((((w.alloc (.cells #[.int .i64 (b : Int), .int .i64 e] 50)).alloc (.cells #[.bool false] 4)).alloc (.cells #[.int .i64 (n : Int)] 3)).alloc (.cells #[.int .i64 (b : Int)] 3)) = W4) := ⟨_, rfl⟩
      rw [hW4.out]
      have z4 : W4.heap.size = w.heap.size + 4 := by rw [← hW4.out]; simp
      have B4 : Below w.heap.size w W4 := by rw [← hW4.out]; exact ((((Below.refl _ w).alloc (Nat.le_refl _) _).alloc (by rw [size_alloc]; omega) _).alloc (by rw [size_alloc, size_alloc]; omega) _).alloc (by rw [size_alloc, size_alloc, size_alloc]; omega) _
      have R0 : SpI W4 w.heap.size b e := by rw [← hW4.out]; exact ((S0.below ((Below.refl _ _).alloc (Nat.le_refl _) _)).below ((Below.refl _ _).alloc (Nat.le_refl _) _)).below ((Below.refl _ _).alloc (Nat.le_refl _) _)
      have R1 : Boxed W4 (w.heap.size + 1) 4 (.bool false) := by
        rw [← hW4.out]
        have := Boxed.new (w.alloc (.cells #[.int .i64 (b : Int), .int .i64 e] 50)) 4 (.bool false)
        rw [size_alloc] at this
        exact (this.alloc _).alloc _
      have R2 : Boxed W4 (w.heap.size + 1 + 1) 3 (.int .i64 (n : Int)) := by
        rw [← hW4.out]
        have := Boxed.new ((w.alloc (.cells #[.int .i64 (b : Int), .int .i64 e] 50)).alloc (.cells #[.bool false] 4)) 3 (.int .i64 (n : Int))
        rw [size_alloc, size_alloc] at this
        exact this.alloc _
      have R3 : Boxed W4 (w.heap.size + 1 + 1 + 1) 3 (.int .i64 (b : Int)) := by
        rw [← hW4.out]
        have := Boxed.new (((w.alloc (.cells #[.int .i64 (b : Int), .int .i64 e] 50)).alloc (.cells #[.bool false] 4)).alloc (.cells #[.int .i64 (n : Int)] 3)) 3 (.int .i64 (b : Int))
        rw [size_alloc, size_alloc, size_alloc] at this
        exact this
      clear hW4 S0
      obtain ⟨F0, hF0⟩ : ∃ F0 : Nat → Prop, Hid (F0 = fun k => k = w.heap.size ∨ k = w.heap.size + 1) := ⟨_, rfl⟩
      refine range_foot (n := 9) (gf := 182) (lb := #[.pointer (some ⟨w.heap.size + 1 + 1, 0, none⟩), .pointer (some ⟨w.heap.size + 1 + 1 + 1, 0, none⟩)]) rfl (enters_of Tryz.func182 (by kernel_rfl) rfl)
        (way_iter n b _ _ (by omega) (by omega) (by omega) W4 R2.cell R3.cell) (fun _ => rfl)
        (fun F pre W => Hid (F = F0) ∧ SpI W w.heap.size b e ∧ Boxed W (w.heap.size + 1) 4 (.bool false) ∧ Nev b e pre)
        (fun c F pre W => Hid (c = .ret) ∧ Hid (F = F0) ∧ Boxed W (w.heap.size + 1) 4 (.bool true) ∧ Onc b e pre)
        ?fI (fun c => ?fX) F0 ⟨rfl, R0, R1, fun _ h => by cases h⟩ ?dis ?cl
        (fun F pre x a W => ∃ go, F = (fun k => F0 k ∨ k = go) ∧ ¬ F0 go ∧ SpI W go x.1 x.2 ∧ SpI W w.heap.size b e ∧ Boxed W (w.heap.size + 1) 4 (.bool false) ∧ Nev b e pre ∧ a = { tmps := #[.int .i64 (n : Int), sg b e, undef, .pointer (some ⟨w.heap.size, 0, none⟩), .pointer (some ⟨w.heap.size + 1, 0, none⟩), .pointer (some ⟨go, 0, none⟩), .int .i64 (n : Int), .bool true, .bool false, .bool false, .int .i64 (n : Int), .pointer (some ⟨w.heap.size, 0, none⟩), .int .i64 (b : Int), .bool true, .bool false, .bool false, .int .i64 (n : Int), .pointer (some ⟨w.heap.size, 0, none⟩), .int .i64 (b : Int), .func (.func 182) #[] #[.pointer (some ⟨w.heap.size + 1 + 1, 0, none⟩), .pointer (some ⟨w.heap.size + 1 + 1 + 1, 0, none⟩)], sg x.1 x.2, undef, undef, undef], defers := [] })
        ?fA ?assign ?body ?done ?stop
      case fI =>
        have hF0 := hF0.out; subst hF0
        refine ⟨?_, ?_⟩
        · rintro F pre W W' S ⟨rfl, h1, h2, h3⟩ hk hs
          exact ⟨rfl, h1.keep hk (hs _ (.inl rfl)), h2.keepF hk (hs _ (.inr rfl)), h3⟩
        · rintro F pre W ⟨rfl, h1, h2, h3⟩ k (rfl | rfl)
          · exact lt_of_heap h1
          · exact h2.lt
      case fX =>
        have hF0 := hF0.out; subst hF0
        refine ⟨?_, ?_⟩
        · rintro F pre W W' S ⟨h0, rfl, h2, h3⟩ hk hs
          exact ⟨h0, rfl, h2.keepF hk (hs _ (.inr rfl)), h3⟩
        · rintro F pre W ⟨h0, rfl, h2, h3⟩ k (rfl | rfl)
          · have := h2.lt; omega
          · exact h2.lt
      case dis =>
        have hF0 := hF0.out; subst hF0
        rintro k (rfl | rfl) (h | h) <;> omega
      case cl => rintro k (rfl | rfl) <;> omega
      case fA =>
        have hF0 := hF0.out; subst hF0
        rintro x a
        refine ⟨?_, ?_⟩
        · rintro F pre W W' S ⟨go, rfl, h1, h2, h3, h4, h5, h6⟩ hk hs
          exact ⟨go, rfl, h1, h2.keep hk (hs _ (.inr rfl)), h3.keep hk (hs _ (.inl (.inl rfl))), h4.keepF hk (hs _ (.inl (.inr rfl))), h5, h6⟩
        · rintro F pre W ⟨go, rfl, h1, h2, h3, h4, h5, h6⟩ k ((rfl | rfl) | rfl)
          · exact lt_of_heap h3
          · exact h4.lt
          · exact lt_of_heap h2
      case assign =>
        rintro l F pre x rest W ⟨rfl, h1, h2, h3⟩ hx
        have hlt := fun k (hk : F k) => show k < W.heap.size by
          have hF0 := hF0.out; subst hF0
          rcases hk with rfl | rfl
          · exact lt_of_heap h1
          · exact h2.lt
        gi_wp2
        have hb := (Below.refl _ W).alloc (Nat.le_refl _) (.cells #[.int .i64 (x.1 : Int), .int .i64 (x.2 : Int)] 50)
        exact ⟨_, Mvs.alloc F W _, W.heap.size, rfl, fun h => by have := hlt _ h; omega, SpI.new W x.1 x.2, h1.below hb, h2.belowF hb, h3, rfl⟩
      case body =>
        rintro l F pre x rest a W ⟨go, rfl, h1, h2, h3, h4, h5, rfl⟩ hx
        obtain ⟨x, y⟩ := x
        have c0 := h2.c0
        have c1 := h2.c1
        have d0 := h3.c0
        have d1 := h3.c1
        have r0 := h4.cell
        have r1 := h4.frozen
        have heq := fun w' => eq_sp (x : Int) (y : Int) (b : Int) e w'
        by_cases hq : (x : Int) = b ∧ (y : Int) = e
        · have hq' : ((x : Int) == (b : Int) && (y : Int) == e) = true := by simp [hq.1, hq.2]
          rw [hq'] at heq
          gi_wp2
          refine ⟨F0, ⟨Keep.ofSet _ _ 0 _ (.inl (by rw [hF0.out]; exact .inr rfl)), fun k hk => .inl (.inl hk)⟩, rfl, rfl, h4.set _, Onc.snoc hq⟩
        · have hq' : ((x : Int) == (b : Int) && (y : Int) == e) = false := by simpa using hq
          rw [hq'] at heq
          gi_wp2
          refine ⟨F0, ⟨Keep.refl _ _, fun k hk => .inl (.inl hk)⟩, rfl, h3, h4, h5.snoc hq⟩
      case done =>
        rintro D F W ⟨rfl, h1, h2, h3⟩ ha
        have r0 := h2.cell
        have r1 := h2.frozen
        gi_wp2
        have hm : (W.setCell ⟨w.heap.size + 1, 0, none⟩ (.bool false)).heap[D]? = some (.deferred (some [])) := (Below.heap_setCell W _ _ D (by show D ≠ w.heap.size + 1; have := ha.hi; omega)).trans ha.mark
        refine ⟨by simp, .inl ⟨_, _, rfl, run_takeDeferred hm, ?_⟩⟩
        have hc5 := ((h2.set (.bool false)).keepF (Keep.ofPut (S := fun k => k = D) _ D (.deferred none) rfl) (by have := ha.hi; omega)).cell
        have er : insB n b e = false := by
          cases hc : insB n b e with
          | false => rfl
          | true =>
            obtain ⟨s, hs, h⟩ := (insB_way (by omega) (by omega) (by omega)).1 hc
            exact absurd h (h3 s hs)
        refine ⟨.bool false, ?_, by rw [er], ?_⟩
        · simp [results, Tryz.f101, go_sem, hc5]
        · have k1 : Keep (fun k => w.heap.size ≤ k) W4 W := ha.keep.mono fun k _ h => by rw [hF0.out] at h; rcases h with (h | h) | h <;> first | omega | exact h.elim
          have k2 := (k1.trans (Keep.ofSet (S := fun k => w.heap.size ≤ k) W (w.heap.size + 1) 0 (.bool false) (by omega)) fun _ _ h => h).trans (Keep.ofPut (S := fun k => w.heap.size ≤ k) _ D (.deferred none) (by have := ha.hi; omega)) fun _ _ h => h
          exact B4.trans (k2.belowOf (by omega) fun _ h => h)
      case stop =>
        rintro D c F pre W hp ⟨rfl, rfl, h2, h3⟩ ha
        gi_wp2
        refine ⟨by simp, .inl ⟨_, _, rfl, run_takeDeferred ha.mark, ?_⟩⟩
        have hc5 := (h2.keepF (Keep.ofPut (S := fun k => k = D) _ D (.deferred none) rfl) (by have := ha.hi; omega)).cell
        have er : insB n b e = true := by
          obtain ⟨s, hs, h⟩ := h3
          exact (insB_way (by omega) (by omega) (by omega)).2 ⟨s, hp.subset hs, h⟩
        refine ⟨.bool true, ?_, by rw [er], ?_⟩
        · simp [results, Tryz.f101, go_sem, hc5]
        · have k1 : Keep (fun k => w.heap.size ≤ k) W4 W := ha.keep.mono fun k _ h => by rw [hF0.out] at h; rcases h with (h | h) | h <;> first | omega | exact h.elim
          have k2 := k1.trans (Keep.ofPut (S := fun k => w.heap.size ≤ k) W D (.deferred none) (by have := ha.hi; omega)) fun _ _ h => h
          exact B4.trans (k2.belowOf (by omega) fun _ h => h)
    · have i2 := fun w' => isLeaf8_is n b false (by simpa using hb) w'
      gi_wp2
      refine ⟨trivial, (callsIn_wide.2 (i1 _)).mono ?_⟩
      rintro r w1 ⟨rfl, h1⟩
      have h1 := h1.symm
      subst h1
      gi_wp2
      refine ⟨trivial, (callsIn_wide.2 (i2 _)).mono ?_⟩
      rintro r w1 ⟨rfl, h1⟩
      have h1 := h1.symm
      subst h1
      have r0 : ((w.alloc (.cells #[.int .i64 b, .int .i64 e] 50)).alloc (.cells #[.bool false] 4)).cell? ⟨w.heap.size + 1, 0, none⟩ = some (.bool false) := by
        have := (Boxed.new (w.alloc (.cells #[.int .i64 b, .int .i64 e] 50)) 4 (.bool false)).cell
        rwa [size_alloc] at this
      gi_wp2
      have er : insB n b e = false := by unfold insB; rw [decide_eq_false (by omega)]; rfl
      refine ⟨.bool false, ?_, by rw [er], ((Below.refl _ w).alloc (Nat.le_refl _) _).alloc (by rw [size_alloc]; omega) _⟩
      simp [results, Tryz.f101, go_sem, r0]
  · have i1 := fun w' => isSize_is n false (by simpa using hn) w'
    gi_wp2
    refine ⟨trivial, (callsIn_wide.2 (i1 _)).mono ?_⟩
    rintro r w1 ⟨rfl, h1⟩
    have h1 := h1.symm
    subst h1
    have r0 : ((w.alloc (.cells #[.int .i64 b, .int .i64 e] 50)).alloc (.cells #[.bool false] 4)).cell? ⟨w.heap.size + 1, 0, none⟩ = some (.bool false) := by
      have := (Boxed.new (w.alloc (.cells #[.int .i64 b, .int .i64 e] 50)) 4 (.bool false)).cell
      rwa [size_alloc] at this
    gi_wp2
    refine ⟨trivial, ?_⟩
    gi_wp2
    have er : insB n b e = false := by unfold insB; rw [decide_eq_false (by omega)]; rfl
    refine ⟨.bool false, ?_, by rw [er], ((Below.refl _ w).alloc (Nat.le_refl _) _).alloc (by rw [size_alloc]; omega) _⟩
    simp [results, Tryz.f101, go_sem, r0]
end Go.Proofs.YtblmaokonhdjaaaGreatDoor

namespace Go.Proofs.YtblmaokonhdjaaaGreatDoor
open Go.RowKit

/-- APPEND onto what is owned, from whatever source. -/
theorem run_append_S {P : Program} (w : World) (base : Nat) (t tx ty e : TypeId) (i : TypeInfo) (z : Value) (ht : P.underlying t = some (.slice e)) (hi : P.info? e = some i) (hz : i.zero = some z)
    (hsize : i.size = 1) (hzs : z.cells.size = 1) (v : Value) (cs : List Value) (hown : Own w base v cs) (x : Value) (n : Nat) (news : List Value) (hs : Src P 1 tx x n news w)
    (hbytes : (cs.length + n) * i.bytes ≤ 140737488355328) (h63 : cs.length + n ≤ maxLen) (hbase : base ≤ w.heap.size) (hpos : v = .slice none 0 0 → 0 < n) :
    ∃ v' w', (Builtin.append_ #[t, tx] ty #[v, x]).run P w = .ok v' w' ∧ Own w' base v' (cs ++ news) ∧ w.grownBy w' v.ownBlock ∧ (v'.ownBlock = v.ownBlock ∨ (v'.ownBlock = some w.heap.size ∧ ∀ k, k < w.heap.size → w'.heap[k]? = w.heap[k]?)) := by
  have hn : news.length = n := by simpa using hs.newsLen
  have h63' : cs.length + n ≤ 9223372036854775807 := by simp only [maxLen] at h63; omega
  -- the arm that grows
  have grow : ∀ (b : Option Addr) (old : Nat), old < cs.length + n → v = .slice b cs.length old → (Builtin.firstCells 1 cs.length (.slice b cs.length old)).run P w.drew = .ok cs.toArray w.drew →
      ∃ v' w', (Builtin.append_ #[t, tx] ty #[v, x]).run P w = .ok v' w' ∧ Own w' base v' (cs ++ news) ∧ w.grownBy w' v.ownBlock ∧ (v'.ownBlock = v.ownBlock ∨ (v'.ownBlock = some w.heap.size ∧ ∀ k, k < w.heap.size → w'.heap[k]? = w.heap[k]?)) := by
    intro b old ho hv hold
    have hr := run_append_grow_src (P := P) w t tx ty e i z ht hi hz b cs.length old cs (by rw [hsize]; exact hold) x n news (by rw [hsize]; exact hs) ho (by omega) (growslice_fits ho hbytes)
    have hge := grownCap_ge w (cs.length + n) old e
    have hcm : grownCap w (cs.length + n) old e ≤ maxLen := grownCap_le_maxLen w (cs.length + n) old e h63
    have hnew : (w.drew.alloc (.cells ((cs ++ news).toArray ++ Builtin.zeroCells z.cells (grownCap w (cs.length + n) old e - (cs.length + n))) e)).heap[w.heap.size]? = some (.cells ((cs ++ news).toArray ++ Builtin.zeroCells z.cells (grownCap w (cs.length + n) old e - (cs.length + n))) e (0, 0)) := heap_alloc_new w.drew _
    refine ⟨.slice (some ⟨w.heap.size, 0, none⟩) (cs.length + n) (grownCap w (cs.length + n) old e), w.drew.alloc (.cells ((cs ++ news).toArray ++ Builtin.zeroCells z.cells (grownCap w (cs.length + n) old e - (cs.length + n))) e), by rw [hv]; exact hr, .inr ⟨w.heap.size, grownCap w (cs.length + n) old e, by rw [List.length_append, hn], hbase, by rw [List.length_append, hn]; exact hge, hcm, ?_, ?_, ?_⟩, ⟨rfl, rfl, rfl, by rw [size_alloc]; exact Nat.le_succ w.heap.size, fun k hk _ => Below.heap_alloc w.drew _ k hk⟩, .inr ⟨rfl, fun k hk => Below.heap_alloc w.drew _ k hk⟩⟩
    · intro j u hj
      rw [cell_of_row _ _ _ _ _ _ hnew, Nat.zero_add]
      have hj' : j < (cs ++ news).length := (List.getElem?_eq_some_iff.1 hj).1
      rw [Array.getElem?_append_left (by simpa using hj')]
      simpa using hj
    · refine there_of_row hnew 0 _ ?_
      simp only [Array.size_append, List.size_toArray, size_zeroCells, hzs, List.length_append, hn]
      omega
    · rw [size_alloc]; exact Nat.lt_succ_self _
  rcases hown with ⟨rfl, rfl⟩ | ⟨g, cap, rfl, h1, h2, h3, h4, h5, h6⟩
  · exact grow none 0 (by have := hpos rfl; simp; omega) rfl (run_firstCells_none w.drew 1 0 0 0)
  · by_cases hroom : cs.length + n ≤ cap
    · have hr := run_append_room_src (P := P) w t tx ty e i ht hi g 0 cs.length cap x n news (by rw [hsize]; exact hs) hroom
        (fun j hj => by rw [hsize, Nat.mul_one]; exact by have := (h5 (cs.length + j) (by omega)).1; simpa [Nat.add_assoc] using this)
        (fun j hj => by rw [hsize, Nat.mul_one]; exact by have := (h5 (cs.length + j) (by omega)).2; simpa [Nat.add_assoc] using this)
      rw [hsize, Nat.mul_one, Nat.zero_add] at hr
      have ht' : w.there g cs.length news.length := fun j hj => by have := h5 (cs.length + j) (by omega); simpa using this
      refine ⟨_, _, hr, .inr ⟨g, cap, by rw [List.length_append, hn], h1, by rw [List.length_append, hn]; exact hroom, h3, ?_, World.there_setCells h5 _ _ _, ?_⟩, ?_, .inl rfl⟩
      · intro j u hj
        by_cases hjl : j < cs.length
        · rw [List.getElem?_append_left hjl] at hj
          exact World.rangeAt_setCells_apart h4 g cs.length news (.inr (.inl (by omega))) j u hj
        · rw [List.getElem?_append_right (by omega)] at hj
          have := World.rangeAt_setCells_same w g cs.length news ht' (j - cs.length) u hj
          rwa [show cs.length + (j - cs.length) = 0 + j from by omega] at this
      · have := (But.setCells news cs.length (But.refl g w)).size; omega
      · have hb := But.setCells news cs.length (But.refl g w)
        exact ⟨hb.os, hb.tape, hb.output, hb.size, fun k hk hne => hb.block k hk (fun e => hne (by rw [e]; rfl))⟩
    · refine grow (some ⟨g, 0, none⟩) cap (by omega) rfl ?_
      exact run_firstCells_some w.drew 1 cs.length ⟨g, 0, none⟩ cs.length cap cs (by simp) (fun j u hj => by rw [Addr.add_mid]; exact h4 j u hj)

/-- what an append does to the world -/
structure Grow (w w' : World) (v v' : Value) : Prop where
  os : w'.os = w.os
  tape : w'.tape = w.tape
  output : w'.output = w.output
  size : w.heap.size ≤ w'.heap.size
  old : ∀ k, k < w.heap.size → v.ownBlock ≠ some k → w'.heap[k]? = w.heap[k]?
  alt : v'.ownBlock = v.ownBlock ∨ ((∀ k, v'.ownBlock = some k → w.heap.size ≤ k) ∧ ∀ k, k < w.heap.size → w'.heap[k]? = w.heap[k]?)
theorem Grow.keep {w w' : World} {v v' : Value} (h : Grow w w' v v') : Keep (fun k => v.ownBlock = some k) w w' := ⟨h.os, h.tape, h.output, h.size, h.old⟩
/-- append of one value that lies in a cell of its own -/
theorem append_one (t e : TypeId) (z : Value) (by_ : Nat) (hb24 : by_ ≤ 24) (hu : Tryz.prog.underlying t = some (.slice e)) (hinfo : (Tryz.prog.info? e).map (fun i => (i.zero, i.size, i.bytes)) = some (some z, 1, by_)) (hzs : z.cells.size = 1)
    (w : World) (base : Nat) (v : Value) (cs : List Value) (x : Value) (hx : x.oneCell' = true) (hown : Own w base v cs) (hlen : cs.length ≤ 2000000) (hbase : base ≤ w.heap.size) :
    ∃ v' w', (Builtin.append_ #[t, t] t #[v, .slice (some ⟨w.heap.size, 0, none⟩) 1 1]).run Tryz.prog (w.alloc (.cells #[x] e)) = .ok v' w' ∧ Own w' base v' (cs ++ [x]) ∧ Grow w w' v v' := by
  obtain ⟨i0, hi, hz0, hz1, hz2⟩ := info_parts hinfo
  have hsrc : Src Tryz.prog 1 t (.slice (some ⟨w.heap.size, 0, none⟩) 1 1) 1 [x] (w.alloc (.cells #[x] e)) :=
    Src.ofSlice _ hu ⟨w.heap.size, 0, none⟩ 1 1 [x] (by simp) (fun j u hj => by
      rw [Addr.add_mid, cell_of_row _ _ _ _ _ _ (heap_alloc_new w _), Nat.zero_add]; simpa using hj) (fun u hu => by simp at hu; subst hu; exact hx)
  obtain ⟨v', w', h1, h2, h3, h4⟩ := run_append_S (P := Tryz.prog) (w.alloc (.cells #[x] e)) base t t t e i0 z hu hi hz0 hz1 hzs v cs (hown.alloc _) _ 1 [x] hsrc
    (by rw [hz2]; exact Nat.le_trans (Nat.mul_le_mul (show cs.length + 1 ≤ 2000001 by omega) hb24) (by decide)) (by rw [maxLen]; omega) (by rw [size_alloc]; omega) (fun _ => by omega)
  have hs := h3.size
  rw [size_alloc] at hs
  refine ⟨v', w', h1, h2, ⟨h3.os, h3.tape, h3.output, by omega, fun k hk hne => (h3.block k (by rw [size_alloc]; omega) (Ne.symm hne)).trans (Below.heap_alloc w _ k hk), ?_⟩⟩
  rcases h4 with h4 | ⟨h4, h5⟩
  · exact .inl h4
  · refine .inr ⟨fun k hk => ?_, fun k hk => (h5 k (by rw [size_alloc]; omega)).trans (Below.heap_alloc w _ k hk)⟩
    rw [h4, size_alloc] at hk
    injection hk with hk
    omega
theorem infoI3 : (Tryz.prog.info? 3).map (fun i => (i.zero, i.size, i.bytes)) = some (some (.int .i64 0), 1, 8) := by kernel_rfl
/-- the mark of the i-th list -/
def mrk (i : Nat) : List UInt8 := [109, 97, 114, 107, UInt8.ofNat i, 0]
end Go.Proofs.YtblmaokonhdjaaaGreatDoor
