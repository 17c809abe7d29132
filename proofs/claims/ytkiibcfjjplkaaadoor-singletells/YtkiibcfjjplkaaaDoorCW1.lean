import Derived.Test.YtkiibcfjjplkaaaDoorProg
import Derived.Test.YtkiibcfjjplkaaaDoorCM1
import Derived.WalkKit
import Derived.WalkSpells
import Derived.WalkLawsBesides
import Derived.Deep.RegionHeld3
import Derived.Deep.QuietTactic
import Derived.BigQuiet
import Derived.Deep.MidRow
import Derived.Deep.Light
import Derived.Maps.Keyed
import Derived.DeepKeys4
import Derived.WideKeyEntry
import Derived.Test.YtkiibcfjjplkaaaDoorCO1
namespace Go.Proofs.YtkiibcfjjplkaaaDoor
open Go.RowKit

theorem ret_int {k : IntKind} {a b : Int} (h : a = b) : Ending.returned (.int k a) = .returned (.int k b) := by rw [h]

set_option maxHeartbeats 400000 in
theorem rotl_any (x n : Nat) (hx : x < 4294967296) (h1 : 1 ≤ n) (h2 : n ≤ 31) (w : World) :
    Calls Tryd.prog 114 #[.int .u32 (x : Int), .int .i64 (-(n : Int))] w fun e w' => e = .returned (.int .u32 (Sha.ror n x : Nat)) ∧ w' = w := by
  have hm := Sha.mask_walk n h1 h2
  have hr := Sha.ror_walk x n hx
  have HR : Hid _ := hr
  clear hr
  obtain ⟨k, hk⟩ : ∃ k : Nat, k = 32 - n := ⟨_, rfl⟩
  rw [← hk] at hm
  have hk1 : (k : Int) ≤ 32 := by omega
  have hk2 : (0 : Int) ≤ k := by omega
  have Hk : Hid _ := hk
  clear hk
  go_enter Tryd.func114, Tryd.ntmps114
  go_wp2
  go_ret
  refine ⟨ret_int ?_, rfl⟩
  have e := HR.out
  rw [IntKind.wrap_u32'] at e
  rw [← e, Hk.out, show 32 - (32 - n) = n from by omega]

set_option maxHeartbeats 400000 in
theorem ror_any (x : Nat) (n : Int) (hx : x < 4294967296) (h1 : 1 ≤ n) (h2 : n ≤ 31) (w : World) :
    Calls Tryd.prog 111 #[.int .u32 (x : Int), .int .i64 n] w fun e w' => e = .returned (.int .u32 (Sha.ror n.toNat x : Nat)) ∧ w' = w := by
  obtain ⟨n, rfl⟩ := Int.eq_ofNat_of_zero_le (show 0 ≤ n by omega)
  rw [Int.toNat_natCast]
  go_enter Tryd.func111, Tryd.ntmps111
  go_wp2_with (go_at_call 114; refine (rotl_any x n hx (by omega) (by omega) _).mono ?_; rintro e w' ⟨rfl, rfl⟩)
  go_ret
  exact ⟨rfl, rfl⟩
end Go.Proofs.YtkiibcfjjplkaaaDoor

namespace Go.Proofs.YtkiibcfjjplkaaaDoor
open Go.RowKit

/-- bytes and words as values -/
def bv (l : List UInt8) : List Value := l.map fun b => .int .u8 (b.toNat : Int)
def wv (l : List Nat) : List Value := l.map fun n => .int .u32 ((n : Nat) : Int)

theorem bv_cell {bl : List UInt8} {w' : World} {g : Nat} {t : TypeId} (h : w'.heap[g]? = some (.cells (bv bl).toArray t (0, 0))) (j : Nat) (hj : j < bl.length) :
    ∃ x : Nat, Hid (x = (bl.getD j 0).toNat) ∧ x < 256 ∧ w'.cell? ⟨g, j, none⟩ = some (.int .u8 (x : Int)) := by
  refine ⟨_, rfl, UInt8.toNat_lt _, ?_⟩
  rw [cell_of_row w' g j _ t _ h]
  simp [bv, hj]
theorem wv_cell {l : List Nat} {w' : World} {g : Nat} {t : TypeId} (h : w'.heap[g]? = some (.cells (wv l).toArray t (0, 0))) (j : Nat) (hj : j < l.length) :
    w'.cell? ⟨g, j, none⟩ = some (.int .u32 ((l.getD j 0 : Nat) : Int)) := by
  rw [cell_of_row w' g j _ t _ h]
  simp [wv, hj]

theorem wv_set (l : List Nat) (m v : Nat) (h : 0 < m) : (wv (l ++ List.replicate m 0)).toArray.setIfInBounds l.length (.int .u32 (v : Int)) = (wv ((l ++ [v]) ++ List.replicate (m - 1) 0)).toArray := by
  obtain ⟨m, rfl⟩ : ∃ n, m = n + 1 := ⟨m - 1, by omega⟩
  simp [wv, List.replicate_succ]

theorem Below.setRow {B : Nat} {a w : World} (h : Below B a w) {g : Nat} (hg : B ≤ g) (cs : Array Value) : Below B a (w.setRow g cs) :=
  ⟨h.os, h.tape, h.output, by rw [setRow_size]; exact h.size, fun k hk => (setRow_other w g k cs (by omega)).trans (h.block k hk)⟩
theorem wv_one (l : List Nat) : (wv l).toArray.all (·.oneCell') = true := by
  refine all_oneCell_toArray fun v hv => ?_
  simp only [wv, List.mem_map] at hv
  obtain ⟨n, _, rfl⟩ := hv
  rfl
theorem bv_one (l : List UInt8) : (bv l).toArray.all (·.oneCell') = true := by
  refine all_oneCell_toArray fun v hv => ?_
  simp only [bv, List.mem_map] at hv
  obtain ⟨n, _, rfl⟩ := hv
  rfl
theorem val_int {k : IntKind} {a b : Int} (h : a = b) : Value.int k a = .int k b := by rw [h]
theorem addSt_walk (s : Sha.St) (a b c d e f g h : Nat) :
    #[Value.int .u32 (((s.a : Int) + (a : Int)) % 4294967296), Value.int .u32 (((s.b : Int) + (b : Int)) % 4294967296), Value.int .u32 (((s.c : Int) + (c : Int)) % 4294967296), Value.int .u32 (((s.d : Int) + (d : Int)) % 4294967296), Value.int .u32 (((s.e : Int) + (e : Int)) % 4294967296), Value.int .u32 (((s.f : Int) + (f : Int)) % 4294967296), Value.int .u32 (((s.g : Int) + (g : Int)) % 4294967296), Value.int .u32 (((s.h : Int) + (h : Int)) % 4294967296)]
      = (wv (Sha.addSt s ⟨a, b, c, d, e, f, g, h⟩).l).toArray := by
  simp only [Sha.sum_walk']; rfl
theorem heap_alloc_at (w : World) (o : Obj) (n : Nat) (h : w.heap.size = n) : (w.alloc o).heap[n]? = some o := by
  subst h; exact heap_alloc_new w o
theorem size_alloc (w : World) (o : Obj) : (w.alloc o).heap.size = w.heap.size + 1 := by
  show (w.heap.push o).size = _; simp
theorem alloc3 (w : World) (a b c : Obj) : (((w.alloc a).alloc b).alloc c).heap[w.heap.size]? = some a ∧ (((w.alloc a).alloc b).alloc c).heap[w.heap.size + 1]? = some b ∧ (((w.alloc a).alloc b).alloc c).heap[w.heap.size + 1 + 1]? = some c ∧ (((w.alloc a).alloc b).alloc c).heap.size = w.heap.size + 3 := by
  have s1 := size_alloc w a
  have s2 := size_alloc (w.alloc a) b
  refine ⟨?_, ?_, ?_, ?_⟩
  · rw [Below.heap_alloc _ _ _ (by omega), Below.heap_alloc _ _ _ (by omega)]; exact heap_alloc_new w a
  · rw [Below.heap_alloc _ _ _ (by omega)]; exact heap_alloc_at _ _ _ s1
  · exact heap_alloc_at _ _ _ (by omega)
  · rw [size_alloc]; omega
theorem below_alloc3 (w : World) (a b c : Obj) : Below w.heap.size w (((w.alloc a).alloc b).alloc c) := by
  have s1 := size_alloc w a
  have s2 := size_alloc (w.alloc a) b
  exact (((Below.refl _ _).alloc (Nat.le_refl _) _).alloc (by omega) _).alloc (by omega) _
end Go.Proofs.YtkiibcfjjplkaaaDoor

namespace Go.Proofs.YtkiibcfjjplkaaaDoor
open Go.RowKit
open Go.WideMaps (KeyLaw)
open Go.ChangeMaps (setBlock)
open Go.MapKept (Stamped)
theorem laidOutT : laidOutB Tryd.prog = true := by kernel_rfl
theorem rowPl : (127 : TypeId) < Tryd.prog.types.size := of_decide_eq_true (by kernel_rfl)
theorem widePl : (match Tryd.prog.underlying 127 with | some (.array _ _) | some (.struct _) => true | _ => false) = true := by kernel_rfl
theorem keyAtPl : Tryd.prog.keyTypeAt 2 127 = true := by kernel_rfl
set_option maxRecDepth 1000000 in
theorem lawPl : KeyLaw Tryd.prog 127 := deep_law_laid laidOutT (m := 2) (by omega) rowPl keyAtPl widePl
theorem undMp : Tryd.prog.underlying 57 = some (.map 127 28) := by kernel_rfl
theorem infoSl : (Tryd.prog.info? 28).map (fun i => (i.zero, i.size, i.bytes)) = some (some (.slice none 0 0), 1, 24) := by kernel_rfl
theorem zeroSl (w : World) : (zeroValue 28).run Tryd.prog w = .ok (.slice none 0 0) w := by
  obtain ⟨i0, hi, hz0, hz1, hz2⟩ := info_parts infoSl
  simp [zeroValue, typeInfo, hi, hz0]
/-- a place's value -/
def kv (p : Int × Int) : Value := .agg #[.int .i64 p.1, .int .i64 p.2]
def InR (p : Int × Int) : Prop := (-9223372036854775808 ≤ p.1 ∧ p.1 ≤ 9223372036854775807) ∧ -9223372036854775808 ≤ p.2 ∧ p.2 ≤ 9223372036854775807
theorem kv_inj {p q : Int × Int} (h : kv p = kv q) : p = q := by
  unfold kv at h
  injection h with h
  have h0 := congrArg (fun a : Array Value => a[0]?) h
  have h1 := congrArg (fun a : Array Value => a[1]?) h
  simp at h0 h1
  exact Prod.ext h0 h1
theorem wf64 {a : Int} (h1 : -9223372036854775808 ≤ a) (h2 : a ≤ 9223372036854775807) : (Lit.int .i64 a).wf = true := by
  unfold Lit.wf
  simp [IntKind.min, IntKind.max, IntKind.signed, IntKind.bits]
  omega
theorem keyTy : Tryd.prog.keyType 127 = true := by kernel_rfl
theorem cellsPl : Tryd.prog.cellsOf 127 = 2 := by kernel_rfl
theorem cellsIT : Tryd.prog.cellsOf 3 = 1 := by kernel_rfl
theorem typesT : Tryd.prog.types.size + 1 = (Tryd.prog.types.size - 1) + 1 + 1 := by have h : 0 < Tryd.prog.types.size := Nat.lt_of_le_of_lt (Nat.zero_le _) rowPl; omega
theorem undPl : ∃ f g : Field, Tryd.prog.underlying 127 = some (.struct #[f, g]) ∧ f.type = 3 ∧ g.type = 3 ∧ f.offset = 0 ∧ g.offset = 1 ∧ (f.name != "_") = true ∧ (g.name != "_") = true := by
  exact ⟨_, _, Tryd.underlying127, rfl, rfl, rfl, rfl, by decide, by decide⟩
theorem undI : Tryd.prog.underlying 3 = some (.int .i64) := by kernel_rfl
theorem keyPl {p : Int × Int} (h : InR p) : ∃ l, keyOf Tryd.prog 127 (kv p) = some l := by
  have h1 := wf64 h.1.1 h.1.2
  have h2 := wf64 h.2.1 h.2.2
  obtain ⟨f, g, hu, hf, hg, hfo, hgo, hfn, hgn⟩ := undPl
  have k1 : ∀ (n : Nat) (a : Int), (Lit.int .i64 a).wf = true → Tryd.prog.keyLits (n + 1) 3 [.int .i64 a] = some [.int .i64 a] := fun n a ha => by
    unfold Program.keyLits
    simp [ha]
  have hfm : (kv p).formed Tryd.prog 127 = true := by
    unfold kv Value.formed
    rw [hu]
    simp [cellsPl]
  have h3 : Tryd.prog.keyLits (Tryd.prog.types.size + 1) 127 (kv p).cells.toList = some [.int .i64 p.1, .int .i64 p.2] := by
    have e : (kv p).cells.toList = [.int .i64 p.1, .int .i64 p.2] := rfl
    rw [typesT, e]
    unfold Program.keyLits
    rw [hu]
    simp [cellsPl, cellsIT, hf, hg, hfo, hgo, hfn, hgn, k1 _ _ h1, k1 _ _ h2]
  refine ⟨.string (keyBytes [.int .i64 p.1, .int .i64 p.2]), ?_⟩
  unfold keyOf
  rw [hu]
  simp only [keyTy, hfm, Bool.and_self, if_true, h3, Option.map_some]
/-- a map from places to lists, entry by entry -/
def Mp (w : World) (b : Nat) (es : List ((Int × Int) × Value)) : Prop :=
  ∃ arr clock, w.heap[b]? = some (.map arr clock) ∧ (∀ x ∈ arr.toList, x.born < clock) ∧ (arr.toList.map (·.born)).Nodup ∧ arr.toList.map (fun e => (e.key, e.val)) = es.map (fun x => (kv x.1, x.2)) ∧ es.Pairwise (fun x y => x.1 ≠ y.1) ∧ ∀ x ∈ es, InR x.1
def has (es : List ((Int × Int) × Value)) (p : Int × Int) : Prop := ∃ v, (p, v) ∈ es
def look (es : List ((Int × Int) × Value)) (p : Int × Int) : Value := ((es.find? (fun x => x.1 == p)).map (·.2)).getD (.slice none 0 0)
def put (es : List ((Int × Int) × Value)) (p : Int × Int) (v : Value) : List ((Int × Int) × Value) := if es.any (fun x => x.1 == p) then es.map (fun x => if x.1 == p then (p, v) else x) else es ++ [(p, v)]
theorem Mp.heap {w w' : World} {b : Nat} {es : List ((Int × Int) × Value)} (h : Mp w b es) (hb : w'.heap[b]? = w.heap[b]?) : Mp w' b es := by
  obtain ⟨arr, clock, h1, h2⟩ := h
  exact ⟨arr, clock, hb.trans h1, h2⟩
theorem Mp.lt {w : World} {b : Nat} {es : List ((Int × Int) × Value)} (h : Mp w b es) : b < w.heap.size := by
  obtain ⟨arr, clock, h1, _⟩ := h
  exact (Array.getElem?_eq_some_iff.1 h1).1
theorem Mp.new (w : World) : Mp (w.alloc (.map #[] 0)) w.heap.size [] :=
  ⟨#[], 0, (MapKept.heap_alloc w _).1, by simp, by simp, rfl, List.Pairwise.nil, by simp⟩
theorem look_mem {es : List ((Int × Int) × Value)} {p : Int × Int} {v : Value} (hn : es.Pairwise (fun x y => x.1 ≠ y.1)) (h : (p, v) ∈ es) : look es p = v := by
  unfold look
  induction es with
  | nil => cases h
  | cons x es ih =>
    obtain ⟨h1, h2⟩ := List.pairwise_cons.1 hn
    rw [List.find?_cons]
    rcases List.mem_cons.1 h with e | e
    · rw [← e]; simp
    · have : (x.1 == p) = false := beq_false_of_ne (h1 _ e)
      rw [this]
      exact ih h2 e
theorem look_none {es : List ((Int × Int) × Value)} {p : Int × Int} (h : ¬ has es p) : look es p = .slice none 0 0 := by
  unfold look
  have : es.find? (fun x => x.1 == p) = none := by
    rw [List.find?_eq_none]
    intro x hx e
    exact h ⟨x.2, by rw [← eq_of_beq e]; exact hx⟩
  rw [this]; rfl
theorem any_has {es : List ((Int × Int) × Value)} {p : Int × Int} : es.any (fun x => x.1 == p) = true ↔ has es p := by
  rw [List.any_eq_true]
  constructor
  · rintro ⟨x, hx, e⟩
    exact ⟨x.2, by rw [← eq_of_beq e]; exact hx⟩
  · rintro ⟨v, hv⟩
    exact ⟨_, hv, by simp⟩
theorem put_hit {es : List ((Int × Int) × Value)} {p : Int × Int} (h : has es p) (v : Value) : put es p v = es.map (fun x => if x.1 == p then (p, v) else x) := by
  unfold put; rw [if_pos (any_has.2 h)]
theorem put_new {es : List ((Int × Int) × Value)} {p : Int × Int} (h : ¬ has es p) (v : Value) : put es p v = es ++ [(p, v)] := by
  unfold put; rw [if_neg (fun e => h (any_has.1 e))]
theorem mem_put {es : List ((Int × Int) × Value)} {p q : Int × Int} {v u : Value} : (q, u) ∈ put es p v ↔ (q = p ∧ u = v) ∨ (q ≠ p ∧ (q, u) ∈ es) := by
  by_cases h : has es p
  · rw [put_hit h, List.mem_map]
    constructor
    · rintro ⟨x, hx, e⟩
      by_cases hp : x.1 == p
      · rw [if_pos hp] at e; cases e; exact .inl ⟨rfl, rfl⟩
      · rw [if_neg hp] at e; subst e; exact .inr ⟨fun e => hp (by simp [e]), hx⟩
    · rintro (⟨rfl, rfl⟩ | ⟨h1, h2⟩)
      · obtain ⟨v', hv'⟩ := h
        exact ⟨_, hv', by simp⟩
      · exact ⟨_, h2, by simp [h1]⟩
  · rw [put_new h, List.mem_append, List.mem_singleton]
    constructor
    · rintro (h1 | h1)
      · exact .inr ⟨fun e => h ⟨u, by rw [← e]; exact h1⟩, h1⟩
      · cases h1; exact .inl ⟨rfl, rfl⟩
    · rintro (⟨rfl, rfl⟩ | ⟨_, h2⟩)
      · exact .inr rfl
      · exact .inl h2
theorem put_keys {es : List ((Int × Int) × Value)} {p : Int × Int} {v : Value} (hn : es.Pairwise (fun x y => x.1 ≠ y.1)) : (put es p v).Pairwise (fun x y => x.1 ≠ y.1) := by
  by_cases h : has es p
  · rw [put_hit h, List.pairwise_map]
    refine hn.imp ?_
    intro x y hxy
    by_cases h1 : x.1 == p <;> by_cases h2 : y.1 == p
    · exact absurd ((eq_of_beq h1).trans (eq_of_beq h2).symm) hxy
    · rw [if_pos h1, if_neg h2]; intro e; exact h2 (by simp at e; simp [← e])
    · rw [if_neg h1, if_pos h2]; intro e; exact h1 (by simp at e; simp [e])
    · rw [if_neg h1, if_neg h2]; exact hxy
  · rw [put_new h, List.pairwise_append]
    refine ⟨hn, List.pairwise_singleton _ _, fun x hx y hy e => ?_⟩
    rw [List.mem_singleton] at hy
    subst hy
    exact h ⟨x.2, by simp only at e; rw [← e]; exact hx⟩
end Go.Proofs.YtkiibcfjjplkaaaDoor

namespace Go.Proofs.YtkiibcfjjplkaaaDoor
open Go.RowKit

/-- the blocks of 'schedule' behind k words -/
structure SchedInv (bl : List UInt8) (w : World) (k : Nat) (w' : World) : Prop where
  blk0 : w'.heap[w.heap.size]? = some (.cells (bv bl).toArray 116 (0, 0))
  blk1 : ∃ cs, cs.size = 64 ∧ w'.heap[w.heap.size + 1]? = some (.cells cs 140 (0, 0))
  blk2 : w'.heap[w.heap.size + 1 + 1]? = some (.cells (wv (Sha.sched bl k ++ List.replicate (64 - k) 0)).toArray 140 (0, 0))
  size : w'.heap.size = w.heap.size + 3
  below : Below w.heap.size w w'

theorem info64w : (Tryd.prog.info? 140).map (·.size) = some 64 := by kernel_rfl

theorem SchedInv.word {bl : List UInt8} {w : World} {k : Nat} {w' : World} (inv : SchedInv bl w k w') (j : Nat) (hj : j < k) :
    ∃ y : Nat, Hid (y = (Sha.sched bl k).getD j 0) ∧ y < 4294967296 ∧ w'.cell? ⟨w.heap.size + 1 + 1, j, none⟩ = some (.int .u32 (y : Int)) := by
  refine ⟨_, rfl, Sha.sched_getD_lt bl k j, ?_⟩
  rw [wv_cell inv.blk2 j (by simp [Sha.sched_length]; omega)]
  simp only [List.getD_eq_getElem?_getD]
  rw [List.getElem?_append_left (by rw [Sha.sched_length]; exact hj)]

theorem SchedInv.set {bl : List UInt8} {w : World} {k : Nat} {w' : World} (inv : SchedInv bl w k w') (hk : k < 64) :
    SchedInv bl w (k + 1) (w'.setCell ⟨w.heap.size + 1 + 1, k, none⟩ (.int .u32 ((Sha.wNext bl (Sha.sched bl k) k : Nat) : Int))).drew := by
  have hl := Sha.sched_length bl k
  refine ⟨?_, ?_, ?_, ?_, ?_⟩
  · rw [heap_drew, heap_setCell_other _ _ _ _ (by show w.heap.size ≠ w.heap.size + 1 + 1; omega)]; exact inv.blk0
  · obtain ⟨cs, h1, h2⟩ := inv.blk1
    exact ⟨cs, h1, by rw [heap_drew, heap_setCell_other _ _ _ _ (by show w.heap.size + 1 ≠ w.heap.size + 1 + 1; omega)]; exact h2⟩
  · rw [heap_drew, heap_setCell_same _ _ _ _ _ _ inv.blk2]
    have := wv_set (Sha.sched bl k) (64 - k) (Sha.wNext bl (Sha.sched bl k) k) (by omega)
    rw [hl] at this
    rw [this, show 64 - k - 1 = 64 - (k + 1) from by omega]
    rfl
  · rw [heap_drew]; simpa using inv.size
  · exact (inv.below.setCell (by simp; omega) _).drew

theorem schedInv_start (bl : List UInt8) (w : World) :
    SchedInv bl w 0 (((w.alloc (.cells (bv bl).toArray 116)).alloc (.cells (wv (List.replicate 64 0)).toArray 140)).alloc (.cells (wv (List.replicate 64 0)).toArray 140)) := by
  obtain ⟨h0, h1, h2, h3⟩ := alloc3 w (.cells (bv bl).toArray 116) (.cells (wv (List.replicate 64 0)).toArray 140) (.cells (wv (List.replicate 64 0)).toArray 140)
  exact ⟨h0, ⟨_, by simp [wv], h1⟩, h2, h3, below_alloc3 _ _ _ _⟩

set_option maxHeartbeats 400000 in
theorem schedule_any (bl : List UInt8) (hb : bl.length = 64) (w : World) :
    Calls Tryd.prog 110 #[.agg (bv bl).toArray] w fun e w' => e = .returned (.agg (wv (Sha.sched bl 64)).toArray) ∧ Below w.heap.size w w' := by
  go_enter Tryd.func110, Tryd.ntmps110
  go_wp2
  go_loopw [11] (fun i w' => ∃ k : Nat, k ≤ 16 ∧ i = .int .i64 k ∧ SchedInv bl w k w') (fun i _ => 16 - (intOf i).toNat)
  case atStart =>
    exact ⟨0, by omega, rfl, schedInv_start bl w⟩
  case round =>
    obtain ⟨k, hk, rfl, inv⟩ := hrel
    by_cases hlt : k < 16
    · have b1 : (0 : Int) ≤ 4 * (k : Int) := by omega
      have b2 : 4 * (k : Int) < 64 := by omega
      have b4 : 4 * (k : Int) + 1 < 64 := by omega
      have b5 : 4 * (k : Int) + 2 < 64 := by omega
      have b6 : 4 * (k : Int) + 3 < 64 := by omega
      have b7 : 0 ≤ 4 * (k : Int) + 1 := by omega
      have b8 : 0 ≤ 4 * (k : Int) + 2 := by omega
      have b9 : 0 ≤ 4 * (k : Int) + 3 := by omega
      have v1 : IntKind.i64.wrap (4 * (k : Int) + 1) = 4 * (k : Int) + 1 := wrap_small _ (by omega) (by omega)
      have v2 : IntKind.i64.wrap (4 * (k : Int) + 2) = 4 * (k : Int) + 2 := wrap_small _ (by omega) (by omega)
      have v3 : IntKind.i64.wrap (4 * (k : Int) + 3) = 4 * (k : Int) + 3 := wrap_small _ (by omega) (by omega)
      have n1 : ¬ (w.heap.size + 1 + 1 = w.heap.size) := by omega
      have n2 : ¬ (w.heap.size = w.heap.size + 1 + 1) := by omega
      have t0 : (4 * (k : Int)).toNat = 4 * k := by omega
      have t1 : (4 * (k : Int) + 1).toNat = 4 * k + 1 := by omega
      have t2 : (4 * (k : Int) + 2).toNat = 4 * k + 2 := by omega
      have t3 : (4 * (k : Int) + 3).toNat = 4 * k + 3 := by omega
      have b3 : (k : Int) < 64 := by omega
      obtain ⟨x0, e0, l0, c0⟩ := bv_cell inv.blk0 (4 * k) (by omega)
      obtain ⟨x1, e1, l1, c1⟩ := bv_cell inv.blk0 (4 * k + 1) (by omega)
      obtain ⟨x2, e2, l2, c2⟩ := bv_cell inv.blk0 (4 * k + 2) (by omega)
      obtain ⟨x3, e3, l3, c3⟩ := bv_cell inv.blk0 (4 * k + 3) (by omega)
      have c4 := wv_cell inv.blk2 k (by simp [Sha.sched_length]; omega)
      have f4 : wr.frozen? ⟨w.heap.size + 1 + 1, k, none⟩ = false := frozen_of_row _ _ _ _ _ inv.blk2
      go_wp2
      go_region_held3 (fun w' => w'.cell? ⟨w.heap.size, 4 * k, none⟩ = some (.int .u8 x0) ∧ w'.cell? ⟨w.heap.size, 4 * k + 1, none⟩ = some (.int .u8 x1) ∧ w'.cell? ⟨w.heap.size, 4 * k + 2, none⟩ = some (.int .u8 x2) ∧ w'.cell? ⟨w.heap.size, 4 * k + 3, none⟩ = some (.int .u8 x3)) (go_keep) (fail)
      go_wp2
      go_roundw
      case rel =>
        go_light
        refine ⟨k + 1, by omega, by go_num, ?_⟩
        have e := Sha.word_walk x0 x1 x2 x3 l0 l1 l2 l3
        have g := SchedInv.set inv (by omega)
        rw [Sha.wNext, if_pos hlt, ← e0.out, ← e1.out, ← e2.out, ← e3.out, ← e] at g
        exact g
      case measure => simp [intOf]; omega
    · obtain rfl : k = 16 := by omega
      go_wp2
      go_loopw [6] (fun i w' => ∃ t : Nat, 16 ≤ t ∧ t ≤ 64 ∧ i = .int .i64 t ∧ SchedInv bl w t w') (fun i _ => 64 - (intOf i).toNat)
      case atStart => exact ⟨16, by omega, by omega, rfl, inv⟩
      case round =>
        obtain ⟨t, ht0, ht, rfl, inv⟩ := hrel
        by_cases hlt : t < 64
        · have b1 : (0 : Int) ≤ (t : Int) - 2 := by omega
          have b2 : (t : Int) - 2 < 64 := by omega
          have b3 : (t : Int) < 64 := by omega
          have b4 : (0 : Int) ≤ (t : Int) - 7 := by omega
          have b5 : (t : Int) - 7 < 64 := by omega
          have b6 : (0 : Int) ≤ (t : Int) - 15 := by omega
          have b7 : (t : Int) - 15 < 64 := by omega
          have b8 : (0 : Int) ≤ (t : Int) - 16 := by omega
          have b9 : (t : Int) - 16 < 64 := by omega
          have d1 : (7 : Int) ≤ (t : Int) := by omega
          have d2 : (16 : Int) ≤ (t : Int) := by omega
          obtain ⟨o7, ho7⟩ : ∃ o, o = t - 7 := ⟨_, rfl⟩
          obtain ⟨o16, ho16⟩ : ∃ o, o = t - 16 := ⟨_, rfl⟩
          have n1 : ¬ (t = o7) := by omega
          have n2 : ¬ (t = o16) := by omega
          have n3 : ¬ (o7 = t) := by omega
          have n4 : ¬ (o16 = t) := by omega
          have t1 : ((t : Int) - 7).toNat = o7 := by omega
          have t3 : ((t : Int) - 16).toNat = o16 := by omega
          have v1 : IntKind.i64.wrap ((t : Int) - 2) = (t : Int) - 2 := wrap_small _ (by omega) (by omega)
          have v2 : IntKind.i64.wrap ((t : Int) - 7) = (t : Int) - 7 := wrap_small _ (by omega) (by omega)
          have v3 : IntKind.i64.wrap ((t : Int) - 15) = (t : Int) - 15 := wrap_small _ (by omega) (by omega)
          have v4 : IntKind.i64.wrap ((t : Int) - 16) = (t : Int) - 16 := wrap_small _ (by omega) (by omega)
          have t0 : ((t : Int) - 2).toNat = t - 2 := by omega
          have t2 : ((t : Int) - 15).toNat = t - 15 := by omega
          obtain ⟨y2, e2, l2, c2⟩ := SchedInv.word inv (t - 2) (by omega)
          obtain ⟨y7, e7, l7, c7⟩ := SchedInv.word inv o7 (by omega)
          obtain ⟨y15, e15, l15, c15⟩ := SchedInv.word inv (t - 15) (by omega)
          obtain ⟨y16, e16, l16, c16⟩ := SchedInv.word inv o16 (by omega)
          have Ho7 : Hid _ := ho7
          have Ho16 : Hid _ := ho16
          clear ho7 ho16
          have c4 := wv_cell inv.blk2 t (by simp [Sha.sched_length]; omega)
          have f4 : wr.frozen? ⟨w.heap.size + 1 + 1, t, none⟩ = false := frozen_of_row _ _ _ _ _ inv.blk2
          have hs0 := Sha.s0_walk y15 l15
          have hs1 := Sha.s1_walk y2 l2
          go_wp2
          go_quiet (fail)
          go_wp2_with (go_at_call 111; refine (ror_any _ _ (by assumption) (by omega) (by omega) _).mono ?_; rintro e w' ⟨rfl, rfl⟩)
          go_region_held3 (fun w' => w'.cell? ⟨w.heap.size + 1 + 1, o7, none⟩ = some (.int .u32 y7) ∧ w'.cell? ⟨w.heap.size + 1 + 1, o16, none⟩ = some (.int .u32 y16)) (first | go_keep | simp [*, World.cell?_setCell_other]) (fail)
          go_wp2
          go_roundw
          case rel =>
            go_light
            have g := SchedInv.set (w' := wr.drewN nq) ⟨inv.blk0, inv.blk1, inv.blk2, inv.size, below_drewN inv.below nq⟩ hlt
            rw [Sha.wNext, if_neg (by omega), ← e2.out, ← Ho7.out, ← e7.out, ← e15.out, ← Ho16.out, ← e16.out] at g
            (repeat apply Exists.intro)
            refine ⟨⟨t + 1, by omega, by omega, by go_num, ?_⟩, rfl⟩
            rw [Sha.sum4_mod]
            exact g
          case measure => simp [intOf]; omega
        · obtain rfl : t = 64 := by omega
          have hb2 : wr.heap[w.heap.size + 1 + 1]? = some (.cells (wv (Sha.sched bl 64)).toArray 140 (0, 0)) := by simpa using inv.blk2
          obtain ⟨cs, hcs, hb1⟩ := inv.blk1
          have hsz : (Tryd.prog.info? 140).map (·.size) = some (wv (Sha.sched bl 64)).toArray.size := by rw [info64w]; simp [wv, Sha.sched_length]
          go_wp2_with (first | (with_reducible show wpList _ _ _ (Oper.mk _ (Op.load _ _) _ _ _ _ :: _) _ _; refine wpList_load_row rfl 140 _ rfl (w.heap.size + 1 + 1) rfl 140 _ (0, 0) _ hb2 Tryd.underlying140 rfl hsz ?_) | (with_reducible show wpList _ _ _ (Oper.mk _ (Op.store _ _ _) _ _ _ _ :: _) _ _; refine wpList_store_row rfl 140 _ _ rfl (w.heap.size + 1) _ rfl rfl 140 cs hb1 hsz (by simp [wv, Sha.sched_length, hcs]) (wv_one _) ?_))
          refine bodyPost_ret (v := .agg (wv (Sha.sched bl 64)).toArray) (results_cell_row rfl _ _ (w.heap.size + 1) 140 _ (0, 0) _ rfl (setRow_heap _ _ cs _ _ _ hb1) Tryd.underlying140 rfl hsz) rfl ⟨rfl, ?_⟩
          exact Below.setRow inv.below (by omega) _
end Go.Proofs.YtkiibcfjjplkaaaDoor
