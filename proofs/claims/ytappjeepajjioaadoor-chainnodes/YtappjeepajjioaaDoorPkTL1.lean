import Derived.Test.YtappjeepajjioaaDoorPkR4
import Derived.Maps.Keyed
import Derived.DeepKeys4
import Derived.WideKeyEntry
import Derived.Test.YtappjeepajjioaaDoorPkM1
import Derived.Test.YtappjeepajjioaaDoorPkW3
import Derived.Test.YtappjeepajjioaaDoorPkSH3
import Derived.Test.YtappjeepajjioaaDoorPkO51
/- THE PLAIN MATHEMATICS OF LAYER 7: complete subtrees, rows of them, spans; nothing of the program. -/
namespace Go.Proofs.YtappjeepajjioaaDoor
namespace Til
open Tree
/-- leaves b up to e -/
def sg (L : List T) (b e : Nat) : List T := (L.take e).drop b
theorem sg_len {L : List T} {b e : Nat} (h : e ≤ L.length) : (sg L b e).length = e - b := by unfold sg; rw [List.length_drop, List.length_take]; omega
theorem sg_hs {L : List T} (h : Hs L) (b e : Nat) : Hs (sg L b e) := (h.take e).drop b
theorem sg_take {L : List T} {b e k : Nat} (h : b + k ≤ e) : (sg L b e).take k = sg L b (b + k) := by
  unfold sg
  rw [List.take_drop, List.take_take]
  congr 2
  omega
theorem sg_drop {L : List T} {b e k : Nat} : (sg L b e).drop k = sg L (b + k) e := by
  unfold sg
  rw [List.drop_drop]
theorem sg_all (L : List T) : sg L 0 L.length = L := by unfold sg; rw [List.take_length, List.drop_zero]
theorem sg_append {L M : List T} {b e : Nat} (h : e ≤ L.length) : sg (L ++ M) b e = sg L b e := by
  unfold sg
  rw [List.take_append_of_le_length h]
theorem sg_nil {L : List T} (b : Nat) : sg L b b = [] := by
  unfold sg
  exact List.drop_eq_nil_of_le (by rw [List.length_take]; omega)
theorem sg_one {L : List T} {b : Nat} (h : b < L.length) : sg L b (b + 1) = [L[b]] := by
  unfold sg
  rw [List.take_add_one, List.getElem?_eq_getElem h, Option.toList_some, List.drop_append_of_le_length (by rw [List.length_take]; omega), List.drop_eq_nil_of_le (by rw [List.length_take]; omega), List.nil_append]
/-- the root of 2^a and some more -/
theorem root_two {L : List T} {b e a : Nat} (he : e ≤ L.length) (h1 : b + 2 ^ a < e) (h2 : e ≤ b + 2 * 2 ^ a) : root (sg L b e) = nd (root (sg L b (b + 2 ^ a))) (root (sg L (b + 2 ^ a) e)) := by
  have hp := Nat.two_pow_pos a
  have hl := sg_len (L := L) (b := b) he
  have hs := sp_one (n := (sg L b e).length) (by omega) a (by omega) (by omega)
  rw [root_cut (by omega), hs, sg_take (by omega), sg_drop]
/-- the hash of a complete subtree -/
def hs (L : List T) (l i : Nat) : T := root (sg L (i * 2 ^ l) ((i + 1) * 2 ^ l))
theorem hs_leaf {L : List T} {i : Nat} (h : i < L.length) : hs L 0 i = L[i] := by
  unfold hs
  rw [Nat.pow_zero, Nat.mul_one, Nat.mul_one, sg_one h, root_one]
theorem hs_node {L : List T} {l i : Nat} (h : (i + 1) * 2 ^ (l + 1) ≤ L.length) : hs L (l + 1) i = nd (hs L l (2 * i)) (hs L l (2 * i + 1)) := by
  unfold hs
  have hp := Nat.two_pow_pos l
  have e1 : i * 2 ^ (l + 1) = 2 * i * 2 ^ l := by rw [Nat.pow_succ, Nat.mul_comm (2 ^ l) 2, ← Nat.mul_assoc, Nat.mul_comm i 2]
  have e2 : (i + 1) * 2 ^ (l + 1) = 2 * i * 2 ^ l + 2 * 2 ^ l := by rw [Nat.add_mul, e1, Nat.one_mul, Nat.pow_succ]; omega
  have e3 : (2 * i + 1) * 2 ^ l = 2 * i * 2 ^ l + 2 ^ l := by rw [Nat.add_mul, Nat.one_mul]
  have e4 : (2 * i + 1 + 1) * 2 ^ l = 2 * i * 2 ^ l + 2 * 2 ^ l := by rw [Nat.add_mul, Nat.one_mul, e3]; omega
  rw [e1, e2, e3, e4, root_two (a := l) (by omega) (by omega) (by omega)]
theorem hs_append {L M : List T} {l i : Nat} (h : (i + 1) * 2 ^ l ≤ L.length) : hs (L ++ M) l i = hs L l i := by
  unfold hs
  rw [sg_append h]
theorem hs_hash {L : List T} (h : Hs L) (l i : Nat) : (hs L l i).length = 32 := root_hash (sg_hs h _ _)
/-- a row of complete subtrees, of which there are c -/
def row (L : List T) (h c l i : Nat) : List T := (List.range (min (2 ^ h) (c - i * 2 ^ h))).map fun t => hs L l (i * 2 ^ h + t)
theorem row_len (L : List T) (h c l i : Nat) : (row L h c l i).length = min (2 ^ h) (c - i * 2 ^ h) := by unfold row; rw [List.length_map, List.length_range]
theorem row_hs {L : List T} (hL : Hs L) (h c l i : Nat) : Hs (row L h c l i) := fun x hx => by
  obtain ⟨t, _, rfl⟩ := List.mem_map.1 hx
  exact hs_hash hL _ _
theorem row_get {L : List T} {h c l i t : Nat} (ht : t < min (2 ^ h) (c - i * 2 ^ h)) : (row L h c l i)[t]? = some (hs L l (i * 2 ^ h + t)) := by
  unfold row
  rw [List.getElem?_map, List.getElem?_range ht]
  rfl
/-- the hash stands in its row -/
theorem row_at {L : List T} {h c l i : Nat} (hi : i < c) : (row L h c l (i / 2 ^ h))[i % 2 ^ h]? = some (hs L l i) := by
  have hp := Nat.two_pow_pos h
  have h1 := Nat.mod_lt i hp
  have h2 : i / 2 ^ h * 2 ^ h + i % 2 ^ h = i := by rw [Nat.mul_comm]; exact Nat.div_add_mod i _
  rw [row_get (by omega), h2]
theorem row_more {L : List T} (h c l : Nat) : row L h (c + 1) l (c / 2 ^ h) = row L h c l (c / 2 ^ h) ++ [hs L l c] := by
  have hp := Nat.two_pow_pos h
  have h1 := Nat.mod_lt c hp
  have h2 : c / 2 ^ h * 2 ^ h + c % 2 ^ h = c := by rw [Nat.mul_comm]; exact Nat.div_add_mod c _
  unfold row
  rw [show min (2 ^ h) (c + 1 - c / 2 ^ h * 2 ^ h) = c % 2 ^ h + 1 by omega, show min (2 ^ h) (c - c / 2 ^ h * 2 ^ h) = c % 2 ^ h by omega, List.range_succ, List.map_append]
  simp only [List.map_cons, List.map_nil, h2]
theorem row_other {L : List T} {h c l i : Nat} (hi : i ≠ c / 2 ^ h) : row L h (c + 1) l i = row L h c l i := by
  have hp := Nat.two_pow_pos h
  have h1 := Nat.mod_lt c hp
  have h2 : c / 2 ^ h * 2 ^ h + c % 2 ^ h = c := by rw [Nat.mul_comm]; exact Nat.div_add_mod c _
  unfold row
  congr 2
  rcases Nat.lt_or_gt_of_ne hi with h3 | h3
  · have h4 : (i + 1) * 2 ^ h ≤ c / 2 ^ h * 2 ^ h := Nat.mul_le_mul_right _ h3
    rw [Nat.add_mul, Nat.one_mul] at h4
    omega
  · have h4 : (c / 2 ^ h + 1) * 2 ^ h ≤ i * 2 ^ h := Nat.mul_le_mul_right _ h3
    rw [Nat.add_mul, Nat.one_mul] at h4
    omega
theorem row_append {L M : List T} {h c l i : Nat} (hc : c * 2 ^ l ≤ L.length) : row (L ++ M) h c l i = row L h c l i := by
  unfold row
  apply List.map_congr_left
  intro t ht
  rw [List.mem_range] at ht
  apply hs_append
  have : (i * 2 ^ h + t + 1) * 2 ^ l ≤ c * 2 ^ l := Nat.mul_le_mul_right _ (by omega)
  omega
/-- all rows, of cnt l subtrees at level l -/
def rf (L : List T) (h : Nat) (cnt : Nat → Nat) (p : Int × Int) : List T := if 0 ≤ p.1 ∧ 0 ≤ p.2 then row L h (cnt p.1.toNat) p.1.toNat p.2.toNat else []
def cn (n l : Nat) : Nat := n / 2 ^ l
def up (cnt : Nat → Nat) (l : Nat) : Nat → Nat := fun k => if k = l then cnt l + 1 else cnt k
theorem rf_nat (L : List T) (h : Nat) (cnt : Nat → Nat) (l i : Nat) : rf L h cnt ((l : Int), (i : Int)) = row L h (cnt l) l i := by
  unfold rf
  rw [if_pos ⟨Int.natCast_nonneg _, Int.natCast_nonneg _⟩, Int.toNat_natCast, Int.toNat_natCast]
theorem rf_up_same (L : List T) (h : Nat) (cnt : Nat → Nat) (l : Nat) : rf L h (up cnt l) ((l : Int), ((cnt l / 2 ^ h : Nat) : Int)) = rf L h cnt ((l : Int), ((cnt l / 2 ^ h : Nat) : Int)) ++ [hs L l (cnt l)] := by
  rw [rf_nat, rf_nat]
  unfold up
  rw [if_pos rfl]
  exact row_more h (cnt l) l
theorem rf_up_other (L : List T) (h : Nat) (cnt : Nat → Nat) (l : Nat) {p : Int × Int} (hp : p ≠ ((l : Int), ((cnt l / 2 ^ h : Nat) : Int))) : rf L h (up cnt l) p = rf L h cnt p := by
  unfold rf
  by_cases h0 : 0 ≤ p.1 ∧ 0 ≤ p.2
  · rw [if_pos h0, if_pos h0]
    unfold up
    by_cases hl : p.1.toNat = l
    · rw [if_pos hl]
      subst hl
      refine row_other fun e => hp ?_
      have h1 : p.1 = ((p.1.toNat : Nat) : Int) := by omega
      have h2 : p.2 = ((p.2.toNat : Nat) : Int) := by omega
      apply Prod.ext
      · exact h1
      · rw [← e]; exact h2
    · rw [if_neg hl]
  · rw [if_neg h0, if_neg h0]
theorem rf_append {L M : List T} {h : Nat} {cnt : Nat → Nat} (hc : ∀ l, cnt l * 2 ^ l ≤ L.length) (p : Int × Int) : rf (L ++ M) h cnt p = rf L h cnt p := by
  unfold rf
  split
  · exact row_append (hc _)
  · rfl
theorem cn_le (n l : Nat) : cn n l * 2 ^ l ≤ n := Nat.div_mul_le_self n _
/-- while a leaf is taken: up to level k all is as with it -/
def gc (n k : Nat) : Nat → Nat := fun l => if l < k then cn (n + 1) l else cn n l
theorem gc_zero (n : Nat) : gc n 0 = cn n := by funext l; unfold gc; rw [if_neg (by omega)]
theorem cn_more {n k : Nat} (h : 2 ^ k ∣ n + 1) : cn (n + 1) k = cn n k + 1 := by
  unfold cn
  obtain ⟨c, hc⟩ := h
  have hp := Nat.two_pow_pos k
  have h1 : 0 < c := by
    rcases Nat.eq_zero_or_pos c with h0 | h0
    · rw [h0, Nat.mul_zero] at hc; omega
    · exact h0
  rw [hc, Nat.mul_div_cancel_left _ hp]
  have : n / 2 ^ k = c - 1 := by
    apply Nat.div_eq_of_lt_le
    · rw [Nat.mul_comm, Nat.mul_sub]; omega
    · rw [show c - 1 + 1 = c by omega, Nat.mul_comm]; omega
  omega
theorem cn_same {n k : Nat} (h : ¬ 2 ^ k ∣ n + 1) : cn (n + 1) k = cn n k := by
  unfold cn
  have hp := Nat.two_pow_pos k
  have h1 : (n + 1) / 2 ^ k = if 2 ^ k ∣ n + 1 then n / 2 ^ k + 1 else n / 2 ^ k := by rw [Nat.succ_div]; split <;> omega
  rw [h1, if_neg h]
theorem gc_up {n k : Nat} (h : 2 ^ k ∣ n + 1) : up (gc n k) k = gc n (k + 1) := by
  funext l
  unfold up gc
  by_cases hl : l = k
  · subst hl
    rw [if_pos rfl, if_neg (by omega), if_pos (by omega), cn_more h]
  · rw [if_neg hl]
    by_cases h2 : l < k
    · rw [if_pos h2, if_pos (by omega)]
    · rw [if_neg h2, if_neg (by omega)]
theorem gc_end {n k : Nat} (h : ¬ 2 ^ k ∣ n + 1) : gc n k = cn (n + 1) := by
  funext l
  unfold gc
  by_cases hl : l < k
  · rw [if_pos hl]
  · rw [if_neg hl]
    exact (cn_same fun h1 => h (Nat.dvd_trans (Nat.pow_dvd_pow 2 (by omega)) h1)).symm
end Til
end Go.Proofs.YtappjeepajjioaaDoor

namespace Go.Proofs.YtappjeepajjioaaDoor
open Go.RowKit
open Go.WideMaps (KeyLaw)
open Go.ChangeMaps (setBlock)
open Go.MapKept (Stamped)
theorem laidOutT : laidOutB Tryd.prog = true := by kernel_rfl
theorem infoSl : (Tryd.prog.info? 40).map (fun i => (i.zero, i.size, i.bytes)) = some (some (.slice none 0 0), 1, 24) := by kernel_rfl
theorem zeroSl (w : World) : (zeroValue 40).run Tryd.prog w = .ok (.slice none 0 0) w := by
  obtain ⟨i0, hi, hz0, hz1, hz2⟩ := info_parts infoSl
  simp [zeroValue, typeInfo, hi, hz0]
/-- a place's value -/
def kv (p : Int × Int) : Value := .agg #[.int .i64 p.1, .int .i64 p.2]
def InR (p : Int × Int) : Prop := (-9223372036854775808 ≤ p.1 ∧ p.1 ≤ 9223372036854775807) ∧ -9223372036854775808 ≤ p.2 ∧ p.2 ≤ 9223372036854775807
theorem kv_inj {p q : Int × Int} (h : kv p = kv q) : p = q := by
  unfold kv at h
  injection h with h
  have h0 := congrArg (fun a : Array Value => a[0]?) h
  have h1 := congrArg (fun a : Array Value => a[1]?) h
  simp at h0 h1
  exact Prod.ext h0 h1
theorem wf64 {a : Int} (h1 : -9223372036854775808 ≤ a) (h2 : a ≤ 9223372036854775807) : (Lit.int .i64 a).wf = true := by
  unfold Lit.wf
  simp [IntKind.min, IntKind.max, IntKind.signed, IntKind.bits]
  omega
theorem cellsIT : Tryd.prog.cellsOf 3 = 1 := by kernel_rfl
theorem undI : Tryd.prog.underlying 3 = some (.int .i64) := by kernel_rfl
/-- a map from places to lists, entry by entry -/
def Mp (w : World) (b : Nat) (es : List ((Int × Int) × Value)) : Prop :=
  ∃ arr clock, w.heap[b]? = some (.map arr clock) ∧ (∀ x ∈ arr.toList, x.born < clock) ∧ (arr.toList.map (·.born)).Nodup ∧ arr.toList.map (fun e => (e.key, e.val)) = es.map (fun x => (kv x.1, x.2)) ∧ es.Pairwise (fun x y => x.1 ≠ y.1) ∧ ∀ x ∈ es, InR x.1
def has (es : List ((Int × Int) × Value)) (p : Int × Int) : Prop := ∃ v, (p, v) ∈ es
def look (es : List ((Int × Int) × Value)) (p : Int × Int) : Value := ((es.find? (fun x => x.1 == p)).map (·.2)).getD (.slice none 0 0)
def put (es : List ((Int × Int) × Value)) (p : Int × Int) (v : Value) : List ((Int × Int) × Value) := if es.any (fun x => x.1 == p) then es.map (fun x => if x.1 == p then (p, v) else x) else es ++ [(p, v)]
theorem Mp.heap {w w' : World} {b : Nat} {es : List ((Int × Int) × Value)} (h : Mp w b es) (hb : w'.heap[b]? = w.heap[b]?) : Mp w' b es := by
  obtain ⟨arr, clock, h1, h2⟩ := h
  exact ⟨arr, clock, hb.trans h1, h2⟩
theorem Mp.lt {w : World} {b : Nat} {es : List ((Int × Int) × Value)} (h : Mp w b es) : b < w.heap.size := by
  obtain ⟨arr, clock, h1, _⟩ := h
  exact (Array.getElem?_eq_some_iff.1 h1).1
theorem Mp.new (w : World) : Mp (w.alloc (.map #[] 0)) w.heap.size [] :=
  ⟨#[], 0, (MapKept.heap_alloc w _).1, by simp, by simp, rfl, List.Pairwise.nil, by simp⟩
theorem look_mem {es : List ((Int × Int) × Value)} {p : Int × Int} {v : Value} (hn : es.Pairwise (fun x y => x.1 ≠ y.1)) (h : (p, v) ∈ es) : look es p = v := by
  unfold look
  induction es with
  | nil => cases h
  | cons x es ih =>
    obtain ⟨h1, h2⟩ := List.pairwise_cons.1 hn
    rw [List.find?_cons]
    rcases List.mem_cons.1 h with e | e
    · rw [← e]; simp
    · have : (x.1 == p) = false := beq_false_of_ne (h1 _ e)
      rw [this]
      exact ih h2 e
theorem look_none {es : List ((Int × Int) × Value)} {p : Int × Int} (h : ¬ has es p) : look es p = .slice none 0 0 := by
  unfold look
  have : es.find? (fun x => x.1 == p) = none := by
    rw [List.find?_eq_none]
    intro x hx e
    exact h ⟨x.2, by rw [← eq_of_beq e]; exact hx⟩
  rw [this]; rfl
theorem any_has {es : List ((Int × Int) × Value)} {p : Int × Int} : es.any (fun x => x.1 == p) = true ↔ has es p := by
  rw [List.any_eq_true]
  constructor
  · rintro ⟨x, hx, e⟩
    exact ⟨x.2, by rw [← eq_of_beq e]; exact hx⟩
  · rintro ⟨v, hv⟩
    exact ⟨_, hv, by simp⟩
theorem put_hit {es : List ((Int × Int) × Value)} {p : Int × Int} (h : has es p) (v : Value) : put es p v = es.map (fun x => if x.1 == p then (p, v) else x) := by
  unfold put; rw [if_pos (any_has.2 h)]
theorem put_new {es : List ((Int × Int) × Value)} {p : Int × Int} (h : ¬ has es p) (v : Value) : put es p v = es ++ [(p, v)] := by
  unfold put; rw [if_neg (fun e => h (any_has.1 e))]
theorem mem_put {es : List ((Int × Int) × Value)} {p q : Int × Int} {v u : Value} : (q, u) ∈ put es p v ↔ (q = p ∧ u = v) ∨ (q ≠ p ∧ (q, u) ∈ es) := by
  by_cases h : has es p
  · rw [put_hit h, List.mem_map]
    constructor
    · rintro ⟨x, hx, e⟩
      by_cases hp : x.1 == p
      · rw [if_pos hp] at e; cases e; exact .inl ⟨rfl, rfl⟩
      · rw [if_neg hp] at e; subst e; exact .inr ⟨fun e => hp (by simp [e]), hx⟩
    · rintro (⟨rfl, rfl⟩ | ⟨h1, h2⟩)
      · obtain ⟨v', hv'⟩ := h
        exact ⟨_, hv', by simp⟩
      · exact ⟨_, h2, by simp [h1]⟩
  · rw [put_new h, List.mem_append, List.mem_singleton]
    constructor
    · rintro (h1 | h1)
      · exact .inr ⟨fun e => h ⟨u, by rw [← e]; exact h1⟩, h1⟩
      · cases h1; exact .inl ⟨rfl, rfl⟩
    · rintro (⟨rfl, rfl⟩ | ⟨_, h2⟩)
      · exact .inr rfl
      · exact .inl h2
theorem put_keys {es : List ((Int × Int) × Value)} {p : Int × Int} {v : Value} (hn : es.Pairwise (fun x y => x.1 ≠ y.1)) : (put es p v).Pairwise (fun x y => x.1 ≠ y.1) := by
  by_cases h : has es p
  · rw [put_hit h, List.pairwise_map]
    refine hn.imp ?_
    intro x y hxy
    by_cases h1 : x.1 == p <;> by_cases h2 : y.1 == p
    · exact absurd ((eq_of_beq h1).trans (eq_of_beq h2).symm) hxy
    · rw [if_pos h1, if_neg h2]; intro e; exact h2 (by simp at e; simp [← e])
    · rw [if_neg h1, if_pos h2]; intro e; exact h1 (by simp at e; simp [e])
    · rw [if_neg h1, if_neg h2]; exact hxy
  · rw [put_new h, List.pairwise_append]
    refine ⟨hn, List.pairwise_singleton _ _, fun x hx y hy e => ?_⟩
    rw [List.mem_singleton] at hy
    subst hy
    exact h ⟨x.2, by simp only at e; rw [← e]; exact hx⟩
end Go.Proofs.YtappjeepajjioaaDoor

namespace Go.Proofs.YtappjeepajjioaaDoor
open Go.RowKit
open Go.WideMaps (KeyLaw)
open Go.ChangeMaps (setBlock)
theorem Mp.memE {arr : Array MapEntry} {es : List ((Int × Int) × Value)} {p : Int × Int} (h : arr.toList.map (fun e => (e.key, e.val)) = es.map (fun x => (kv x.1, x.2))) {e : MapEntry} (he : e ∈ arr.toList) (hk : e.key = kv p) : (p, e.val) ∈ es := by
  have h1 : (e.key, e.val) ∈ es.map (fun x => (kv x.1, x.2)) := by rw [← h]; exact List.mem_map.2 ⟨e, he, rfl⟩
  obtain ⟨x, hx, hxe⟩ := List.mem_map.1 h1
  injection hxe with h2 h3
  have := kv_inj (h2.trans hk)
  rw [← this, ← h3]
  exact hx
theorem Mp.notE {arr : Array MapEntry} {es : List ((Int × Int) × Value)} {p : Int × Int} (h : arr.toList.map (fun e => (e.key, e.val)) = es.map (fun x => (kv x.1, x.2))) (hk : ∀ e ∈ arr.toList, e.key ≠ kv p) : ¬ has es p := fun ⟨v, hv⟩ => by
  have h1 : (kv p, v) ∈ arr.toList.map (fun e => (e.key, e.val)) := by rw [h]; exact List.mem_map.2 ⟨(p, v), hv, rfl⟩
  obtain ⟨e, he, hxe⟩ := List.mem_map.1 h1
  injection hxe with h2 h3
  exact hk e he h2
theorem But.setBlock {b : Nat} {w w' : World} (h : But b w w') (o : Obj) : But b w (setBlock w' b o) :=
  ⟨h.os, h.tape, h.output, by simp only [Go.ChangeMaps.setBlock, Array.size_setIfInBounds]; exact h.size, fun k hk hne => by
    have : (Go.ChangeMaps.setBlock w' b o).heap[k]? = w'.heap[k]? := by simp only [Go.ChangeMaps.setBlock]; rw [Array.getElem?_setIfInBounds, if_neg (fun e => hne e.symm)]
    exact this.trans (h.block k hk hne)⟩
theorem setBlock_at {w : World} {b : Nat} {o o' : Obj} (h : w.heap[b]? = some o) : (setBlock w b o').heap[b]? = some o' := by
  have hlt := (Array.getElem?_eq_some_iff.1 h).1
  simp only [Go.ChangeMaps.setBlock]
  rw [Array.getElem?_setIfInBounds, if_pos rfl, if_pos hlt]
end Go.Proofs.YtappjeepajjioaaDoor

/- THE PLAIN MATHEMATICS OF LAYER 13: what is told, and what is folded of it; nothing of the program. -/
namespace Go.Proofs.YtappjeepajjioaaDoor
namespace Chn
theorem canF_fuel (K : List (Nat × Nat)) : ∀ (f g b n : Nat), n ≤ f → n ≤ g → 1 ≤ n → Tree.canF f b n K = Tree.canF g b n K
  | 0, _, _, _, h, _, h1 => by omega
  | _ + 1, 0, _, _, _, h, h1 => by omega
  | f + 1, g + 1, b, n, hf, hg, h1 => by
    rw [Tree.canF, Tree.canF]
    by_cases h2 : n < 2
    · rw [if_pos h2, if_pos h2]
    · have s1 := Tree.sp_lt (n := n) (by omega)
      have s2 := Tree.sp_pos (n := n) (by omega)
      rw [canF_fuel K f g b (Tree.sp n) (by omega) (by omega) (by omega), canF_fuel K f g (b + Tree.sp n) (n - Tree.sp n) (by omega) (by omega) (by omega)]
theorem fldF_fuel (K : List (Nat × Nat)) (H : List (List UInt8)) : ∀ (f g b n : Nat), n ≤ f → n ≤ g → 1 ≤ n → Tree.canF f b n K = true → Tree.fldF f b n K H = Tree.fldF g b n K H
  | 0, _, _, _, h, _, h1, _ => by omega
  | _ + 1, 0, _, _, _, h, h1, _ => by omega
  | f + 1, g + 1, b, n, hf, hg, h1, hc => by
    rw [Tree.fldF, Tree.fldF]
    rw [Tree.canF] at hc
    by_cases hk : (b, b + n) ∈ K
    · rw [if_pos hk, if_pos hk]
    · rw [if_neg hk] at hc ⊢
      rw [if_neg hk]
      by_cases h2 : n < 2
      · rw [if_pos h2] at hc; cases hc
      · have s1 := Tree.sp_lt (n := n) (by omega)
        have s2 := Tree.sp_pos (n := n) (by omega)
        rw [if_neg h2, Bool.and_eq_true] at hc
        rw [fldF_fuel K H f g b (Tree.sp n) (by omega) (by omega) (by omega) hc.1, fldF_fuel K H f g (b + Tree.sp n) (n - Tree.sp n) (by omega) (by omega) (by omega) hc.2]
/-- can a span be folded of some? -/
def can (K : List (Nat × Nat)) (s : Nat × Nat) : Bool := Tree.canF (s.2 - s.1) s.1 (s.2 - s.1) K
/-- and its hash -/
def fld (K : List (Nat × Nat)) (H : List (List UInt8)) (s : Nat × Nat) : List UInt8 := Tree.fldF (s.2 - s.1) s.1 (s.2 - s.1) K H
theorem can_eq (K : List (Nat × Nat)) {x y : Nat} (h : x < y) : can K (x, y) = if (x, y) ∈ K then true else if y - x < 2 then false else can K (x, x + Tree.sp (y - x)) && can K (x + Tree.sp (y - x), y) := by
  unfold can
  dsimp only
  obtain ⟨n, hn⟩ : ∃ n, y - x = n + 1 := ⟨y - x - 1, by omega⟩
  rw [hn, Tree.canF, show x + (n + 1) = y by omega]
  by_cases h2 : n + 1 < 2
  · rw [if_pos h2, if_pos h2]
  · have s1 := Tree.sp_lt (n := n + 1) (by omega)
    have s2 := Tree.sp_pos (n := n + 1) (by omega)
    rw [if_neg h2, if_neg h2, show x + Tree.sp (n + 1) - x = Tree.sp (n + 1) by omega, show y - (x + Tree.sp (n + 1)) = n + 1 - Tree.sp (n + 1) by omega]
    rw [canF_fuel K n (Tree.sp (n + 1)) x _ (by omega) (by omega) (by omega), canF_fuel K n (n + 1 - Tree.sp (n + 1)) (x + Tree.sp (n + 1)) _ (by omega) (by omega) (by omega)]
theorem can_mem {K : List (Nat × Nat)} {x y : Nat} (h : x < y) (hk : (x, y) ∈ K) : can K (x, y) = true := by rw [can_eq K h, if_pos hk]
theorem can_one {K : List (Nat × Nat)} {x y : Nat} (h : x < y) (hk : ¬ (x, y) ∈ K) (h2 : y - x < 2) : can K (x, y) = false := by rw [can_eq K h, if_neg hk, if_pos h2]
theorem can_two {K : List (Nat × Nat)} {x y : Nat} (h : x < y) (hk : ¬ (x, y) ∈ K) (h2 : ¬ y - x < 2) : can K (x, y) = (can K (x, x + Tree.sp (y - x)) && can K (x + Tree.sp (y - x), y)) := by rw [can_eq K h, if_neg hk, if_neg h2]
theorem fld_mem {K : List (Nat × Nat)} {H : List (List UInt8)} {x y : Nat} (h : x < y) (hk : (x, y) ∈ K) : fld K H (x, y) = Tree.hashAt K H (x, y) := by
  unfold fld
  dsimp only
  obtain ⟨n, hn⟩ : ∃ n, y - x = n + 1 := ⟨y - x - 1, by omega⟩
  rw [hn, Tree.fldF, show x + (n + 1) = y by omega, if_pos hk]
theorem fld_two {K : List (Nat × Nat)} {H : List (List UInt8)} {x y : Nat} (h : x < y) (hk : ¬ (x, y) ∈ K) (hc : can K (x, y) = true) : 2 ≤ y - x ∧ can K (x, x + Tree.sp (y - x)) = true ∧ can K (x + Tree.sp (y - x), y) = true ∧ fld K H (x, y) = Tree.nd (fld K H (x, x + Tree.sp (y - x))) (fld K H (x + Tree.sp (y - x), y)) := by
  rw [can_eq K h, if_neg hk] at hc
  by_cases h2 : y - x < 2
  · rw [if_pos h2] at hc; cases hc
  · rw [if_neg h2, Bool.and_eq_true] at hc
    refine ⟨by omega, hc.1, hc.2, ?_⟩
    unfold can at hc
    unfold fld
    dsimp only at hc ⊢
    obtain ⟨n, hn⟩ : ∃ n, y - x = n + 1 := ⟨y - x - 1, by omega⟩
    have s1 := Tree.sp_lt (n := n + 1) (by omega)
    have s2 := Tree.sp_pos (n := n + 1) (by omega)
    rw [hn, show x + Tree.sp (n + 1) - x = Tree.sp (n + 1) by omega, show y - (x + Tree.sp (n + 1)) = n + 1 - Tree.sp (n + 1) by omega] at hc
    rw [hn, Tree.fldF, show x + (n + 1) = y by omega, if_neg hk, show x + Tree.sp (n + 1) - x = Tree.sp (n + 1) by omega, show y - (x + Tree.sp (n + 1)) = n + 1 - Tree.sp (n + 1) by omega]
    rw [fldF_fuel K H n (Tree.sp (n + 1)) x _ (by omega) (by omega) (by omega) (by rw [canF_fuel K n (Tree.sp (n + 1)) x _ (by omega) (by omega) (by omega)]; exact hc.1), fldF_fuel K H n (n + 1 - Tree.sp (n + 1)) (x + Tree.sp (n + 1)) _ (by omega) (by omega) (by omega) (by rw [canF_fuel K n (n + 1 - Tree.sp (n + 1)) (x + Tree.sp (n + 1)) _ (by omega) (by omega) (by omega)]; exact hc.2)]
/-- by a span's parts -/
theorem parts_ind {P : Nat → Nat → Prop} (h : ∀ x y, x < y → (2 ≤ y - x → P x (x + Tree.sp (y - x)) ∧ P (x + Tree.sp (y - x)) y) → P x y) : ∀ (n x y : Nat), y - x ≤ n → x < y → P x y
  | 0, x, y, h0, h1 => by omega
  | n + 1, x, y, h0, h1 => h x y h1 fun h2 => by
    have s1 := Tree.sp_lt (n := y - x) (by omega)
    have s2 := Tree.sp_pos (n := y - x) (by omega)
    exact ⟨parts_ind h n x _ (by omega) (by omega), parts_ind h n _ y (by omega) (by omega)⟩
theorem can_mono {K K' : List (Nat × Nat)} (hK : ∀ t ∈ K, t ∈ K') {x y : Nat} (h : x < y) : can K (x, y) = true → can K' (x, y) = true := by
  refine parts_ind (P := fun x y => can K (x, y) = true → can K' (x, y) = true) ?_ (y - x) x y (Nat.le_refl _) h
  intro x y hxy ih hc
  by_cases hk' : (x, y) ∈ K'
  · exact can_mem hxy hk'
  · have hk : ¬ (x, y) ∈ K := fun e => hk' (hK _ e)
    obtain ⟨h2, c1, c2, _⟩ := fld_two (H := []) hxy hk hc
    rw [can_two hxy hk' (by omega), (ih h2).1 c1, (ih h2).2 c2]
    rfl
theorem can_grow {K : List (Nat × Nat)} {t : Nat × Nat} (ht : can K t = true) {x y : Nat} (h : x < y) : can (K ++ [t]) (x, y) = can K (x, y) := by
  have up := can_mono (K := K) (K' := K ++ [t]) (fun s hs => List.mem_append.2 (.inl hs)) h
  cases hc : can K (x, y) with
  | true => exact up hc
  | false =>
    cases hd : can (K ++ [t]) (x, y) with
    | false => rfl
    | true =>
      exfalso
      have key : can (K ++ [t]) (x, y) = true → can K (x, y) = true := by
        refine parts_ind (P := fun x y => can (K ++ [t]) (x, y) = true → can K (x, y) = true) ?_ (y - x) x y (Nat.le_refl _) h
        intro x y hxy ih hc
        by_cases hk : (x, y) ∈ K
        · exact can_mem hxy hk
        · by_cases hk' : (x, y) = t
          · rw [hk']; exact ht
          · have hk2 : ¬ (x, y) ∈ K ++ [t] := fun e => by
              rcases List.mem_append.1 e with e | e
              · exact hk e
              · exact hk' (List.mem_singleton.1 e)
            obtain ⟨h2, c1, c2, _⟩ := fld_two (H := []) hxy hk2 hc
            rw [can_two hxy hk (by omega), (ih h2).1 c1, (ih h2).2 c2]
            rfl
      rw [key hd] at hc
      cases hc
theorem hashAt_left : ∀ {K : List (Nat × Nat)} {H : List (List UInt8)} {s : Nat × Nat} (E : List (Nat × Nat)) (G : List (List UInt8)), K.length = H.length → s ∈ K → Tree.hashAt (K ++ E) (H ++ G) s = Tree.hashAt K H s
  | [], _, s, _, _, _, h => by cases h
  | k :: K, [], s, _, _, h, _ => by cases h
  | k :: K, x :: H, s, E, G, hl, hs => by
    rw [List.cons_append, List.cons_append, Tree.hashAt, Tree.hashAt]
    by_cases hk : k = s
    · rw [if_pos hk, if_pos hk]
    · rw [if_neg hk, if_neg hk]
      refine hashAt_left E G (by simpa using hl) ?_
      rcases List.mem_cons.1 hs with e | e
      · exact absurd e.symm hk
      · exact e
theorem hashAt_last : ∀ {K : List (Nat × Nat)} {H : List (List UInt8)} {s : Nat × Nat} (x : List UInt8), K.length = H.length → ¬ s ∈ K → Tree.hashAt (K ++ [s]) (H ++ [x]) s = x
  | [], [], s, x, _, _ => by simp [Tree.hashAt]
  | [], _ :: _, s, x, h, _ => by cases h
  | k :: K, [], s, _, h, _ => by cases h
  | k :: K, y :: H, s, x, hl, hs => by
    rw [List.cons_append, List.cons_append, Tree.hashAt, if_neg (fun e => hs (by rw [e]; exact List.mem_cons_self))]
    exact hashAt_last x (by simpa using hl) fun e => hs (List.mem_cons_of_mem _ e)
theorem hashAt_get : ∀ {K : List (Nat × Nat)} {H : List (List UInt8)} {s : Nat × Nat} {j : Nat} {x : List UInt8}, K.Nodup → K[j]? = some s → H[j]? = some x → Tree.hashAt K H s = x
  | [], _, s, j, x, _, h, _ => by simp at h
  | k :: K, [], s, j, x, _, _, h => by simp at h
  | k :: K, y :: H, s, 0, x, _, h, h2 => by
    obtain rfl : k = s := by simpa using h
    obtain rfl : y = x := by simpa using h2
    rw [Tree.hashAt, if_pos rfl]
  | k :: K, y :: H, s, j + 1, x, hn, h, h2 => by
    have hn := List.nodup_cons.1 hn
    have hj : K[j]? = some s := by simpa using h
    rw [Tree.hashAt, if_neg (fun e => hn.1 (by rw [e]; exact List.mem_of_getElem? hj))]
    exact hashAt_get hn.2 hj (by simpa using h2)
/-- what is told behind changes nothing of what can be folded ahead -/
theorem fld_old {K E : List (Nat × Nat)} {H G : List (List UInt8)} (hl : K.length = H.length) (hE : ∀ e ∈ E, can K e = false) {x y : Nat} (h : x < y) : can K (x, y) = true → fld (K ++ E) (H ++ G) (x, y) = fld K H (x, y) := by
  refine parts_ind (P := fun x y => can K (x, y) = true → fld (K ++ E) (H ++ G) (x, y) = fld K H (x, y)) ?_ (y - x) x y (Nat.le_refl _) h
  intro x y hxy ih hc
  by_cases hk : (x, y) ∈ K
  · rw [fld_mem hxy hk, fld_mem hxy (List.mem_append.2 (.inl hk)), hashAt_left E G hl hk]
  · have hk2 : ¬ (x, y) ∈ K ++ E := fun e => by
      rcases List.mem_append.1 e with e | e
      · exact hk e
      · rw [hE _ e] at hc; cases hc
    have hc2 : can (K ++ E) (x, y) = true := can_mono (fun s hs => List.mem_append.2 (.inl hs)) hxy hc
    obtain ⟨h2, c1, c2, e1⟩ := fld_two (H := H) hxy hk hc
    obtain ⟨_, _, _, e2⟩ := fld_two (H := H ++ G) hxy hk2 hc2
    rw [e1, e2, (ih h2).1 c1, (ih h2).2 c2]
/-- what was folded counts as told, and changes nothing -/
theorem fld_new {K : List (Nat × Nat)} {H : List (List UInt8)} {t : Nat × Nat} (hl : K.length = H.length) (ht : ¬ t ∈ K) (hct : can K t = true) {x y : Nat} (h : x < y) : can K (x, y) = true → fld (K ++ [t]) (H ++ [fld K H t]) (x, y) = fld K H (x, y) := by
  refine parts_ind (P := fun x y => can K (x, y) = true → fld (K ++ [t]) (H ++ [fld K H t]) (x, y) = fld K H (x, y)) ?_ (y - x) x y (Nat.le_refl _) h
  intro x y hxy ih hc
  by_cases hk : (x, y) ∈ K
  · rw [fld_mem hxy hk, fld_mem hxy (List.mem_append.2 (.inl hk)), hashAt_left _ _ hl hk]
  · by_cases hk' : (x, y) = t
    · subst hk'
      rw [fld_mem hxy (List.mem_append.2 (.inr List.mem_cons_self)), hashAt_last _ hl hk]
    · have hk2 : ¬ (x, y) ∈ K ++ [t] := fun e => by
        rcases List.mem_append.1 e with e | e
        · exact hk e
        · exact hk' (List.mem_singleton.1 e)
      have hc2 : can (K ++ [t]) (x, y) = true := by rw [can_grow hct hxy]; exact hc
      obtain ⟨h2, c1, c2, e1⟩ := fld_two (H := H) hxy hk hc
      obtain ⟨_, _, _, e2⟩ := fld_two (H := H ++ [fld K H t]) hxy hk2 hc2
      rw [e1, e2, (ih h2).1 c1, (ih h2).2 c2]
theorem fld_len {K : List (Nat × Nat)} {H : List (List UInt8)} (hl : K.length = H.length) (h32 : ∀ x ∈ H, x.length = 32) {x y : Nat} (h : x < y) : can K (x, y) = true → (fld K H (x, y)).length = 32 := by
  refine parts_ind (P := fun x y => can K (x, y) = true → (fld K H (x, y)).length = 32) ?_ (y - x) x y (Nat.le_refl _) h
  intro x y hxy ih hc
  by_cases hk : (x, y) ∈ K
  · rw [fld_mem hxy hk]
    have key : ∀ (K : List (Nat × Nat)) (H : List (List UInt8)), K.length = H.length → (∀ x ∈ H, x.length = 32) → (x, y) ∈ K → (Tree.hashAt K H (x, y)).length = 32 := by
      intro K
      induction K with
      | nil => intro H _ _ hk; cases hk
      | cons k K ihK =>
        intro H hl h32 hk
        cases H with
        | nil => cases hl
        | cons z H =>
          rw [Tree.hashAt]
          split
          · exact h32 z List.mem_cons_self
          · rename_i hne
            refine ihK H (by simpa using hl) (fun x hx => h32 x (List.mem_cons_of_mem _ hx)) ?_
            rcases List.mem_cons.1 hk with e | e
            · exact absurd e.symm hne
            · exact e
    exact key K H hl h32 hk
  · obtain ⟨h2, c1, c2, e1⟩ := fld_two (H := H) hxy hk hc
    rw [e1]
    exact Tree.nd_length ((ih h2).1 c1) ((ih h2).2 c2)
end Chn
end Go.Proofs.YtappjeepajjioaaDoor

namespace Go.Proofs.YtappjeepajjioaaDoor
namespace Chn
/-- a span is told, if it can't be folded of those that were -/
def tell (K : List (Nat × Nat)) (s : Nat × Nat) : List (Nat × Nat) := if can K s = true then K else K ++ [s]
def tells (K : List (Nat × Nat)) (L : List (Nat × Nat)) : List (Nat × Nat) := L.foldl tell K
/-- the spans of a pair's proof -/
def prf (a b : Nat) : List (Nat × Nat) := Tree.prfF b 0 b a
/-- what is told of the first i pairs -/
def tol (hs : List Nat) : Nat → List (Nat × Nat)
  | 0 => []
  | i + 1 => tells (tol hs i) (prf (hs.getD i 0) (hs.getD (i + 1) 0))
/-- all spans of the first i pairs -/
def allP (hs : List Nat) : Nat → List (Nat × Nat)
  | 0 => []
  | i + 1 => allP hs i ++ prf (hs.getD i 0) (hs.getD (i + 1) 0)
/-- each could not be folded of those ahead of it -/
def Tld (K : List (Nat × Nat)) : Prop := ∀ (j : Nat) (s : Nat × Nat), K[j]? = some s → can (K.take j) s = false
theorem tells_snoc (K L : List (Nat × Nat)) (s : Nat × Nat) : tells K (L ++ [s]) = tell (tells K L) s := by unfold tells; rw [List.foldl_append]; rfl
theorem tells_next {K L : List (Nat × Nat)} {k : Nat} {s : Nat × Nat} (h : L[k]? = some s) : tells K (L.take (k + 1)) = tell (tells K (L.take k)) s := by
  rw [List.take_add_one, h]
  exact tells_snoc K _ s
theorem Tld.snoc {K : List (Nat × Nat)} {s : Nat × Nat} (h : Tld K) (hs : can K s = false) : Tld (K ++ [s]) := fun j t ht => by
  by_cases hj : j < K.length
  · rw [List.getElem?_append_left hj] at ht
    rw [List.take_append_of_le_length (by omega)]
    exact h j t ht
  · obtain rfl : j = K.length := by
      have := (List.getElem?_eq_some_iff.1 ht).1
      simp at this
      omega
    rw [List.getElem?_append_right (Nat.le_refl _), Nat.sub_self] at ht
    obtain rfl : s = t := by simpa using ht
    rw [List.take_left]
    exact hs
theorem Tld.tell {K : List (Nat × Nat)} (h : Tld K) (s : Nat × Nat) : Tld (tell K s) := by
  unfold Chn.tell
  cases hc : can K s with
  | true => exact h
  | false => rw [if_neg (by simp)]; exact h.snoc hc
theorem tell_pre (K : List (Nat × Nat)) (s : Nat × Nat) : ∃ E, tell K s = K ++ E := by
  unfold tell
  split
  · exact ⟨[], by simp⟩
  · exact ⟨[s], rfl⟩
theorem tells_pre : ∀ (L K : List (Nat × Nat)), ∃ E, tells K L = K ++ E
  | [], K => ⟨[], by simp [tells]⟩
  | s :: L, K => by
    obtain ⟨E, hE⟩ := tell_pre K s
    obtain ⟨E', hE'⟩ := tells_pre L (tell K s)
    refine ⟨E ++ E', ?_⟩
    have : tells K (s :: L) = tells (tell K s) L := rfl
    rw [this, hE', hE, List.append_assoc]
theorem Tld.tells : ∀ (L : List (Nat × Nat)) {K : List (Nat × Nat)}, Tld K → Tld (tells K L)
  | [], _, h => h
  | s :: L, _, h => Tld.tells L (h.tell s)
theorem tol_tld (hs : List Nat) : ∀ i, Tld (tol hs i)
  | 0 => fun j s h => by cases h
  | i + 1 => (tol_tld hs i).tells _
theorem tol_pre (hs : List Nat) (i : Nat) : ∀ d, ∃ E, tol hs (i + d) = tol hs i ++ E
  | 0 => ⟨[], by simp⟩
  | d + 1 => by
    obtain ⟨E, hE⟩ := tol_pre hs i d
    obtain ⟨E', hE'⟩ := tells_pre (prf (hs.getD (i + d) 0) (hs.getD (i + d + 1) 0)) (tol hs (i + d))
    refine ⟨E ++ E', ?_⟩
    show tells (tol hs (i + d)) (prf (hs.getD (i + d) 0) (hs.getD (i + d + 1) 0)) = _
    rw [hE', hE, List.append_assoc]
theorem Tld.late {K E : List (Nat × Nat)} (h : Tld (K ++ E)) (hlo : ∀ s ∈ E, s.1 < s.2) : ∀ e ∈ E, can K e = false := fun e he => by
  obtain ⟨j, hj⟩ := List.getElem?_of_mem he
  have h1 := h (K.length + j) e (by rw [List.getElem?_append_right (by omega), Nat.add_sub_cancel_left]; exact hj)
  cases hc : can K e with
  | false => rfl
  | true =>
    have := can_mono (K := K) (K' := (K ++ E).take (K.length + j)) (fun s hs => by
      rw [List.take_append, List.take_of_length_le (by omega)]
      exact List.mem_append.2 (.inl hs)) (x := e.1) (y := e.2) (hlo e he) hc
    rw [this] at h1
    cases h1
theorem Tld.nodup {K : List (Nat × Nat)} (h : Tld K) (hlo : ∀ s ∈ K, s.1 < s.2) : K.Nodup := by
  rw [List.Nodup, List.pairwise_iff_getElem]
  intro i j hi hj hij e
  have h1 := h j _ (List.getElem?_eq_getElem hj)
  have := can_mem (K := K.take j) (x := K[j].1) (y := K[j].2) (hlo _ (List.getElem_mem hj)) (by
    show K[j] ∈ K.take j
    rw [← e]
    refine List.mem_of_getElem? (i := i) ?_
    rw [List.getElem?_take, if_pos hij, List.getElem?_eq_getElem hi])
  rw [show can (K.take j) K[j] = true from this] at h1
  cases h1
theorem tell_can {K : List (Nat × Nat)} {s : Nat × Nat} (h : s.1 < s.2) : can (tell K s) s = true := by
  unfold tell
  split
  · assumption
  · exact can_mem h (List.mem_append.2 (.inr List.mem_cons_self))
theorem tells_can : ∀ (L K : List (Nat × Nat)), (∀ s ∈ L, s.1 < s.2) → ∀ s ∈ L, can (tells K L) s = true
  | [], _, _, s, h => by cases h
  | t :: L, K, hl, s, hs => by
    show can (tells (tell K t) L) s = true
    rcases List.mem_cons.1 hs with rfl | hs
    · obtain ⟨E, hE⟩ := tells_pre L (tell K s)
      rw [hE]
      exact can_mono (fun s hs => List.mem_append.2 (.inl hs)) (hl s List.mem_cons_self) (tell_can (hl s List.mem_cons_self))
    · exact tells_can L _ (fun s hs => hl s (List.mem_cons_of_mem _ hs)) s hs
theorem tells_sub : ∀ (L K : List (Nat × Nat)), ∀ s ∈ tells K L, s ∈ K ∨ s ∈ L
  | [], K, s, h => .inl h
  | t :: L, K, s, h => by
    rcases tells_sub L (tell K t) s h with h | h
    · unfold tell at h
      split at h
      · exact .inl h
      · rcases List.mem_append.1 h with h | h
        · exact .inl h
        · rw [List.mem_singleton.1 h]; exact .inr List.mem_cons_self
    · exact .inr (List.mem_cons_of_mem _ h)
theorem tol_sub (hs : List Nat) : ∀ i, ∀ s ∈ tol hs i, s ∈ allP hs i
  | 0, s, h => by cases h
  | i + 1, s, h => by
    rcases tells_sub _ _ s h with h | h
    · exact List.mem_append.2 (.inl (tol_sub hs i s h))
    · exact List.mem_append.2 (.inr h)
theorem tells_len : ∀ (L K : List (Nat × Nat)), (tells K L).length ≤ K.length + L.length
  | [], K => by simp [tells]
  | t :: L, K => by
    have h1 := tells_len L (tell K t)
    have h2 : (tell K t).length ≤ K.length + 1 := by unfold tell; split <;> simp
    have : tells K (t :: L) = tells (tell K t) L := rfl
    rw [this, List.length_cons]
    omega
theorem tol_len (hs : List Nat) : ∀ i, (tol hs i).length ≤ (allP hs i).length
  | 0 => Nat.le_refl _
  | i + 1 => by
    have := tol_len hs i
    have := tells_len (prf (hs.getD i 0) (hs.getD (i + 1) 0)) (tol hs i)
    rw [tol, allP, List.length_append]
    omega
/-- heads that may be -/
structure Hds (hs : List Nat) : Prop where
  ne : 1 ≤ hs.length
  le : hs.length ≤ 64
  up : ∀ (i a b : Nat), hs[i]? = some a → hs[i + 1]? = some b → a < b
  lo : ∀ (i a : Nat), hs[i]? = some a → 1 ≤ a ∧ a ≤ 1099511627776
theorem getD_at {hs : List Nat} {i : Nat} (h : i < hs.length) : hs[i]? = some (hs.getD i 0) := by rw [List.getD_eq_getElem?_getD, List.getElem?_eq_getElem h]; rfl
theorem Hds.pair {hs : List Nat} (h : Hds hs) {i : Nat} (hi : i + 1 < hs.length) : 1 ≤ hs.getD i 0 ∧ hs.getD i 0 < hs.getD (i + 1) 0 ∧ hs.getD (i + 1) 0 ≤ 1099511627776 := by
  have e1 := getD_at (hs := hs) (i := i) (by omega)
  have e2 := getD_at hi
  exact ⟨(h.lo _ _ e1).1, h.up _ _ _ e1 e2, (h.lo _ _ e2).2⟩
theorem prf_ins : ∀ (f b n m : Nat), n ≤ f → 1 ≤ n → b < m → m ≤ b + n → ∀ s ∈ Tree.prfF f b n m, Tree.insF f b n s.1 s.2 = true
  | 0, b, n, m, h, h1, _, _, s, hs => by omega
  | f + 1, b, n, m, hf, h1, hm, hm2, s, h => by
    rw [Tree.prfF] at h
    by_cases h2 : b + n = m
    · rw [if_pos h2] at h
      by_cases hb : b = 0
      · rw [if_pos hb] at h; cases h
      · rw [if_neg hb] at h
        obtain rfl := List.mem_singleton.1 h
        exact Tree.insF_self
    · rw [if_neg h2] at h
      have s1 := Tree.sp_lt (n := n) (by omega)
      have s2 := Tree.sp_pos (n := n) (by omega)
      obtain ⟨f', rfl⟩ : ∃ f', f = f' + 1 := ⟨f - 1, by omega⟩
      by_cases hi : m ≤ b + Tree.sp n
      · rw [if_pos hi] at h
        rcases List.mem_append.1 h with h | h
        · have e := prf_ins (f' + 1) b (Tree.sp n) m (by omega) (by omega) hm hi s h
          have := Tree.insF_in _ _ _ _ _ e (by omega)
          rw [Tree.insF, if_neg (by omega), if_neg (by omega), if_pos (by omega)]
          exact e
        · obtain rfl := List.mem_singleton.1 h
          show Tree.insF (f' + 1 + 1) b n (b + Tree.sp n) (b + n) = true
          rw [Tree.insF, if_neg (by omega), if_neg (by omega), if_neg (by omega), if_pos (by omega), show b + n = b + Tree.sp n + (n - Tree.sp n) by omega]
          exact Tree.insF_self
      · rw [if_neg hi] at h
        rcases List.mem_append.1 h with h | h
        · have e := prf_ins (f' + 1) (b + Tree.sp n) (n - Tree.sp n) m (by omega) (by omega) (by omega) (by omega) s h
          have := Tree.insF_in _ _ _ _ _ e (by omega)
          rw [Tree.insF, if_neg (by omega), if_neg (by omega), if_neg (by omega), if_pos (by omega)]
          exact e
        · obtain rfl := List.mem_singleton.1 h
          show Tree.insF (f' + 1 + 1) b n b (b + Tree.sp n) = true
          rw [Tree.insF, if_neg (by omega), if_neg (by omega), if_pos (by omega)]
          exact Tree.insF_self
theorem prf_short : ∀ (k f b n m : Nat), n ≤ 2 ^ k → 1 ≤ n → b < m → m ≤ b + n → (Tree.prfF f b n m).length ≤ k + 1
  | k, 0, b, n, m, _, _, _, _ => by simp [Tree.prfF]
  | 0, f + 1, b, n, m, h, h1, hm, hm2 => by
    rw [Tree.prfF, if_pos (by omega)]
    split <;> simp
  | k + 1, f + 1, b, n, m, h, h1, hm, hm2 => by
    rw [Tree.prfF]
    split
    · split <;> simp
    · have s1 := Tree.sp_lt (n := n) (by omega)
      have s2 := Tree.sp_pos (n := n) (by omega)
      have s3 := Tree.sp_ge (n := n) (by omega)
      have s4 : Tree.sp n ≤ 2 ^ k := by
        rw [Tree.sp_eq (by omega)]
        refine Nat.pow_le_pow_right (by omega) ?_
        have : (n - 1).log2 < k + 1 := (Nat.log2_lt (by omega)).2 (by omega)
        omega
      split
      · rw [List.length_append]
        have := prf_short k f b (Tree.sp n) m s4 (by omega) hm (by omega)
        simp
        omega
      · rw [List.length_append]
        have := prf_short k f (b + Tree.sp n) (n - Tree.sp n) m (by omega) (by omega) (by omega) (by omega)
        simp
        omega
theorem prf_lo {a b : Nat} (h1 : 1 ≤ a) (h2 : a ≤ b) : ∀ s ∈ prf a b, s.1 < s.2 ∧ s.2 ≤ b := fun s hs => by
  have := Tree.insF_in _ _ _ _ _ (prf_ins b 0 b a (Nat.le_refl _) (by omega) (by omega) (by omega) s hs) (by omega)
  omega
theorem prf_len {a b : Nat} (h1 : 1 ≤ a) (h2 : a ≤ b) (h3 : b ≤ 1099511627776) : (prf a b).length ≤ 41 := prf_short 40 b 0 b a (by omega) (by omega) (by omega) (by omega)
theorem allP_lo {hs : List Nat} (h : Hds hs) : ∀ i, i < hs.length → ∀ s ∈ allP hs i, s.1 < s.2 ∧ s.2 ≤ 1099511627776
  | 0, _, s, hs => by cases hs
  | i + 1, hi, s, hs' => by
    rcases List.mem_append.1 hs' with e | e
    · exact allP_lo h i (by omega) s e
    · have hp := h.pair hi
      have := prf_lo hp.1 (by omega) s e
      omega
theorem allP_len {hs : List Nat} (h : Hds hs) : ∀ i, i < hs.length → (allP hs i).length ≤ 41 * i
  | 0, _ => Nat.le_refl _
  | i + 1, hi => by
    have hp := h.pair hi
    have := prf_len hp.1 (by omega) hp.2.2
    have := allP_len h i (by omega)
    rw [allP, List.length_append]
    omega
theorem tol_lo {hs : List Nat} (h : Hds hs) {i : Nat} (hi : i < hs.length) : ∀ s ∈ tol hs i, s.1 < s.2 ∧ s.2 ≤ 1099511627776 := fun s e => allP_lo h i hi s (tol_sub hs i s e)
theorem tol_few {hs : List Nat} (h : Hds hs) {i : Nat} (hi : i < hs.length) : (tol hs i).length ≤ 2583 := by
  have h1 := tol_len hs i
  have h2 := allP_len h i hi
  have := h.le
  omega
/-- each span of a pair can be folded of what is told up to it -/
theorem tol_can {hs : List Nat} (h : Hds hs) {j : Nat} : ∀ (d : Nat), j + 1 + d < hs.length → ∀ s ∈ prf (hs.getD j 0) (hs.getD (j + 1) 0), can (tol hs (j + 1 + d)) s = true := fun d hd s hs' => by
  have hp := h.pair (i := j) (by omega)
  have h1 : can (tol hs (j + 1)) s = true := tells_can _ _ (fun t ht => (prf_lo hp.1 (by omega) t ht).1) s hs'
  obtain ⟨E, hE⟩ := tol_pre hs (j + 1) d
  rw [hE]
  exact can_mono (fun s hs => List.mem_append.2 (.inl hs)) (prf_lo hp.1 (by omega) s hs').1 h1
/-- all that a chain tells -/
def told (hs : List Nat) : List (Nat × Nat) := tol hs (hs.length - 1)
/-- a list without one twice, out of another one, is no longer -/
theorem nodup_len : ∀ (l m : List (Nat × Nat)), l.Nodup → (∀ x ∈ l, x ∈ m) → l.length ≤ m.length
  | [], _, _, _ => Nat.zero_le _
  | a :: l, m, hn, hm => by
    have hn := List.nodup_cons.1 hn
    have := nodup_len l (m.erase a) hn.2 fun x hx => (List.mem_erase_of_ne (fun e => hn.1 (by rw [← e]; exact hx))).2 (hm x (List.mem_cons_of_mem _ hx))
    rw [List.length_erase_of_mem (hm a List.mem_cons_self)] at this
    have := List.length_pos_of_mem (hm a List.mem_cons_self)
    rw [List.length_cons]
    omega
/-- what is known while a chain is expanded: what it tells, and what was folded of that -/
structure Kw (A K0 : List (Nat × Nat)) (H0 : List (List UInt8)) (K : List (Nat × Nat)) (H : List (List UInt8)) : Prop where
  len : K.length = H.length
  nd : K.Nodup
  can : ∀ x y, x < y → can K (x, y) = can K0 (x, y)
  fld : ∀ x y, x < y → Chn.can K0 (x, y) = true → fld K H (x, y) = fld K0 H0 (x, y)
  sub : ∀ s ∈ K, s ∈ A
  h32 : ∀ x ∈ H, x.length = 32
theorem Kw.first {A K0 : List (Nat × Nat)} {H0 : List (List UInt8)} (hl : K0.length = H0.length) (ht : Tld K0) (hlo : ∀ s ∈ K0, s.1 < s.2) (hs : ∀ s ∈ K0, s ∈ A) (h32 : ∀ x ∈ H0, x.length = 32) : Kw A K0 H0 K0 H0 :=
  ⟨hl, ht.nodup hlo, fun _ _ _ => rfl, fun _ _ _ _ => rfl, hs, h32⟩
theorem Kw.next {A K0 K : List (Nat × Nat)} {H0 H : List (List UInt8)} (h : Kw A K0 H0 K H) {s : Nat × Nat} (hlt : s.1 < s.2) (hA : s ∈ A) (hn : ¬ s ∈ K) (hc : Chn.can K0 s = true) : Kw A K0 H0 (K ++ [s]) (H ++ [Chn.fld K0 H0 s]) := by
  have hcK : Chn.can K s = true := (h.can s.1 s.2 hlt).trans hc
  have hf := h.fld s.1 s.2 hlt hc
  refine ⟨by simp [h.len], ?_, fun x y hxy => (can_grow hcK hxy).trans (h.can x y hxy), fun x y hxy hxc => ?_, fun t ht => ?_, fun x hx => ?_⟩
  · refine List.nodup_append.2 ⟨h.nd, by simp, fun a ha b hb e => ?_⟩
    rw [List.mem_singleton] at hb
    subst hb
    exact hn (e ▸ ha)
  · rw [← h.fld x y hxy hxc, ← hf]
    exact fld_new h.len hn hcK hxy ((h.can x y hxy).trans hxc)
  · rcases List.mem_append.1 ht with ht | ht
    · exact h.sub t ht
    · rw [List.mem_singleton.1 ht]; exact hA
  · rcases List.mem_append.1 hx with hx | hx
    · exact h.h32 x hx
    · rw [List.mem_singleton.1 hx, ← hf]
      exact fld_len h.len h.h32 hlt hcK
/-- the hash of a span that is known at a place -/
theorem Kw.at {A K0 K : List (Nat × Nat)} {H0 H : List (List UInt8)} (h : Kw A K0 H0 K H) {s : Nat × Nat} (hlt : s.1 < s.2) {j : Nat} {x : List UInt8} (hj : K[j]? = some s) (hx : H[j]? = some x) : x = Chn.fld K0 H0 s := by
  have hm := List.mem_of_getElem? hj
  have hc : Chn.can K0 s = true := (h.can s.1 s.2 hlt).symm.trans (can_mem hlt hm)
  have e1 := h.fld s.1 s.2 hlt hc
  have e2 : Chn.fld K H s = Tree.hashAt K H s := fld_mem hlt hm
  rw [hashAt_get h.nd hj hx] at e2
  rw [← e2]
  exact e1
/-- the document folds of what was told up to then: it is the same -/
theorem fld_then {K0 : List (Nat × Nat)} {H0 : List (List UInt8)} {K E : List (Nat × Nat)} (hl : K0.length = H0.length) (ht : Tld K0) (hlo : ∀ s ∈ K0, s.1 < s.2) (hE : K0 = K ++ E) {s : Nat × Nat} (hlt : s.1 < s.2) (hc : can K s = true) : fld K (H0.take K.length) s = fld K0 H0 s := by
  subst hE
  have e := fld_old (K := K) (E := E) (H := H0.take K.length) (G := H0.drop K.length) (by rw [List.length_take]; simp at hl; omega) (ht.late fun s hs => hlo s (List.mem_append.2 (.inr hs))) (x := s.1) (y := s.2) hlt hc
  rw [List.take_append_drop] at e
  exact e.symm
/-- the hashes of a pair's proof -/
def exP (hs : List Nat) (H0 : List (List UInt8)) (i : Nat) : List (List UInt8) := (prf (hs.getD i 0) (hs.getD (i + 1) 0)).map (fld (told hs) H0)
/-- C3 -/
def exL (hs : List Nat) (H0 : List (List UInt8)) : List (List (List UInt8)) := (List.range (hs.length - 1)).map (exP hs H0)
end Chn
end Go.Proofs.YtappjeepajjioaaDoor

namespace Go.Proofs.YtappjeepajjioaaDoor
open Go.RowKit
open Go.WideMaps (KeyLaw)
open Go.ChangeMaps (setBlock)
namespace Chn
theorem rowAr : (85 : TypeId) < Tryd.prog.types.size := of_decide_eq_true (by kernel_rfl)
theorem wideAr : (match Tryd.prog.underlying 85 with | some (.array _ _) | some (.struct _) => true | _ => false) = true := by kernel_rfl
theorem keyAtAr : Tryd.prog.keyTypeAt 2 85 = true := by kernel_rfl
set_option maxRecDepth 1000000 in
theorem lawAr : KeyLaw Tryd.prog 85 := deep_law_laid laidOutT (m := 2) (by omega) rowAr keyAtAr wideAr
theorem undPs : Tryd.prog.underlying 54 = some (.map 85 3) := by kernel_rfl
theorem infoIn : (Tryd.prog.info? 3).map (fun i => (i.zero, i.size, i.bytes)) = some (some (.int .i64 0), 1, 8) := by kernel_rfl
theorem zeroIn (w : World) : (zeroValue 3).run Tryd.prog w = .ok (.int .i64 0) w := by
  obtain ⟨i0, hi, hz0, hz1, hz2⟩ := info_parts infoIn
  simp [zeroValue, typeInfo, hi, hz0]
theorem keyTyA : Tryd.prog.keyType 85 = true := by kernel_rfl
theorem cellsAr : Tryd.prog.cellsOf 85 = 2 := by kernel_rfl
theorem undAr : Tryd.prog.underlying 85 = some (.array 2 3) := by kernel_rfl
theorem typesC : Tryd.prog.types.size + 1 = (Tryd.prog.types.size - 1) + 1 + 1 := by have h : 0 < Tryd.prog.types.size := Nat.lt_of_le_of_lt (Nat.zero_le _) rowAr; omega
theorem keyAr {p : Int × Int} (h : InR p) : ∃ l, keyOf Tryd.prog 85 (kv p) = some l := by
  have h1 := wf64 h.1.1 h.1.2
  have h2 := wf64 h.2.1 h.2.2
  have k1 : ∀ (n : Nat) (a : Int), (Lit.int .i64 a).wf = true → Tryd.prog.keyLits (n + 1) 3 [.int .i64 a] = some [.int .i64 a] := fun n a ha => by
    unfold Program.keyLits
    simp [ha]
  have hfm : (kv p).formed Tryd.prog 85 = true := by
    unfold kv Value.formed
    rw [undAr]
    simp [cellsAr]
  have h3 : Tryd.prog.keyLits (Tryd.prog.types.size + 1) 85 (kv p).cells.toList = some [.int .i64 p.1, .int .i64 p.2] := by
    have e : (kv p).cells.toList = [.int .i64 p.1, .int .i64 p.2] := rfl
    rw [typesC, e]
    unfold Program.keyLits
    rw [undAr]
    simp [cellsAr, cellsIT, show List.range 2 = [0, 1] from rfl, k1 _ _ h1, k1 _ _ h2]
  refine ⟨.string (keyBytes [.int .i64 p.1, .int .i64 p.2]), ?_⟩
  unfold keyOf
  rw [undAr]
  simp only [keyTyA, hfm, Bool.and_self, if_true, h3, Option.map_some]
/-- a span's value -/
def kn (s : Nat × Nat) : Value := kv ((s.1 : Int), (s.2 : Int))
def Lo (s : Nat × Nat) : Prop := s.1 ≤ 1099511627776 ∧ s.2 ≤ 1099511627776
theorem Lo.r {s : Nat × Nat} (h : Lo s) : InR ((s.1 : Int), (s.2 : Int)) := by unfold Lo at h; exact ⟨⟨by show _ ≤ (s.1 : Int); omega, by show (s.1 : Int) ≤ _; omega⟩, by show _ ≤ (s.2 : Int); omega, by show (s.2 : Int) ≤ _; omega⟩
theorem kn_inj {s t : Nat × Nat} (h : kn s = kn t) : s = t := by
  have := kv_inj h
  simp only [Prod.mk.injEq] at this
  exact Prod.ext (by omega) (by omega)
/-- the places, as a function -/
abbrev Pl := Nat × Nat → Option Nat
def upd (f : Pl) (s : Nat × Nat) (h : Nat) : Pl := fun t => if t = s then some h else f t
/-- what is known, in memory -/
structure Mc (w : World) (b : Nat) (f  : Pl) : Prop where
  m : ∃ arr clock, w.heap[b]? = some (.map arr clock) ∧ (arr.toList.map (·.key)).Nodup ∧ (∀ e ∈ arr.toList, ∃ (s : Nat × Nat) (h : Nat), e.key = kn s ∧ e.val = .int .i64 (h : Int) ∧ f s = some h ∧ Lo s) ∧ ∀ s, f s ≠ none → ∃ e ∈ arr.toList, e.key = kn s
theorem Mc.heap {w w' : World} {b : Nat} {f  : Pl} (h : Mc w b f) (hb : w'.heap[b]? = w.heap[b]?) : Mc w' b f := by
  obtain ⟨arr, clock, h1, h2⟩ := h.m
  exact ⟨arr, clock, hb.trans h1, h2⟩
theorem Mc.lt {w : World} {b : Nat} {f  : Pl} (h : Mc w b f) : b < w.heap.size := by
  obtain ⟨arr, clock, h1, _⟩ := h.m
  exact (Array.getElem?_eq_some_iff.1 h1).1
theorem Mc.below {w w' : World} {b B : Nat} {f  : Pl} (h : Mc w b f) (hb : Below B w w') (hB : b < B) : Mc w' b f := h.heap (hb.block b hB)
theorem Mc.new (w : World) : Mc (w.alloc (.map #[] 0)) w.heap.size (fun _ => none) :=
  ⟨#[], 0, (MapKept.heap_alloc w _).1, by simp, by simp, fun s hs => absurd rfl hs⟩
theorem Mc.keysOk {arr : Array MapEntry} {f  : Pl} (h : ∀ e ∈ arr.toList, ∃ (s : Nat × Nat) (h : Nat), e.key = kn s ∧ e.val = .int .i64 (h : Int) ∧ f s = some h ∧ Lo s) : ∀ e ∈ arr.toList, ∃ l, keyOf Tryd.prog 85 e.key = some l := fun e he => by
  obtain ⟨s, x, h1, _, _, h4⟩ := h e he
  rw [h1]
  exact keyAr h4.r
theorem Mc.find {w : World} {arr : Array MapEntry} {f  : Pl} (h3 : ∀ e ∈ arr.toList, ∃ (s : Nat × Nat) (h : Nat), e.key = kn s ∧ e.val = .int .i64 (h : Int) ∧ f s = some h ∧ Lo s) (h4 : ∀ s, f s ≠ none → ∃ e ∈ arr.toList, e.key = kn s) {s : Nat × Nat} (hs : Lo s) :
    ((Instr.findKey 85 (kn s) arr.toList).run Tryd.prog w = .ok none w ∧ f s = none ∧ ∀ e ∈ arr.toList, e.key ≠ kn s) ∨
    ∃ (j : Nat) (e : MapEntry) (x : Nat), (Instr.findKey 85 (kn s) arr.toList).run Tryd.prog w = .ok (some (j, .int .i64 (x : Int))) w ∧ f s = some x ∧ arr.toList[j]? = some e ∧ e.key = kn s := by
  obtain ⟨l, hl⟩ := keyAr hs.r
  rcases lawAr.find w hl arr.toList (Mc.keysOk h3) with ⟨f1, f2⟩ | ⟨j, e0, f1, f2, f3⟩
  · refine .inl ⟨f1, ?_, f2⟩
    cases e : f s with
    | none => rfl
    | some x =>
      obtain ⟨e1, he, hk⟩ := h4 s (by rw [e]; simp)
      exact absurd hk (f2 e1 he)
  · obtain ⟨t, x, g1, g2, g3, g4⟩ := h3 e0 (List.mem_of_getElem? f2)
    have : t = s := kn_inj (g1.symm.trans f3)
    subst this
    rw [g2] at f1
    exact .inr ⟨j, e0, x, f1, g3, f2, f3⟩
/-- k[s], that is known -/
theorem Mc.get {w : World} {b : Nat} {f  : Pl} (h : Mc w b f) {s : Nat × Nat} (hs : Lo s) {x : Nat} (hx : f s = some x) : (Instr.lookup 54 (.map (some b)) (.agg #[.int .i64 (s.1 : Int), .int .i64 (s.2 : Int)]) false).run Tryd.prog w = .ok (.int .i64 (x : Int)) w := by
  obtain ⟨arr, clock, hb, h2, h3, h4⟩ := h.m
  obtain ⟨l, hl⟩ := keyAr hs.r
  have hc := lawAr.check w arr.isEmpty hl
  simp only [kv] at hc
  rcases Mc.find (w := w) h3 h4 hs with ⟨f1, f2, _⟩ | ⟨j, e, y, f1, f2, _⟩
  · rw [hx] at f2; cases f2
  · rw [hx] at f2
    cases f2
    simp only [kn, kv] at f1
    simp [Instr.lookup, run_underlying undPs, MapKept.run_getObj_map hb, hc, f1, Result.andThen]
/-- _, ok := k[s] -/
theorem Mc.ok {w : World} {b : Nat} {f  : Pl} (h : Mc w b f) {s : Nat × Nat} (hs : Lo s) : ∃ v : Int, (Instr.lookup 54 (.map (some b)) (.agg #[.int .i64 (s.1 : Int), .int .i64 (s.2 : Int)]) true).run Tryd.prog w = .ok (.tuple #[.int .i64 v, .bool (f s).isSome]) w := by
  obtain ⟨arr, clock, hb, h2, h3, h4⟩ := h.m
  obtain ⟨l, hl⟩ := keyAr hs.r
  have hc := lawAr.check w arr.isEmpty hl
  simp only [kv] at hc
  rcases Mc.find (w := w) h3 h4 hs with ⟨f1, f2, _⟩ | ⟨j, e, y, f1, f2, _⟩
  · rw [f2]
    refine ⟨0, ?_⟩
    simp only [kn, kv] at f1
    simp [Instr.lookup, run_underlying undPs, MapKept.run_getObj_map hb, hc, f1, zeroIn w, Result.andThen]
  · rw [f2]
    refine ⟨(y : Int), ?_⟩
    simp only [kn, kv] at f1
    simp [Instr.lookup, run_underlying undPs, MapKept.run_getObj_map hb, hc, f1, Result.andThen]
/-- k[s] = x -/
theorem Mc.put {w : World} {b : Nat} {f  : Pl} (h : Mc w b f) {s : Nat × Nat} (hs : Lo s) (x : Nat) :
    ∃ w', (Instr.mapUpdate 54 (.map (some b)) (.agg #[.int .i64 (s.1 : Int), .int .i64 (s.2 : Int)]) (.int .i64 (x : Int))).run Tryd.prog w = .ok () w' ∧ Mc w' b (upd f s x) ∧ But b w w' ∧ w'.heap.size = w.heap.size := by
  obtain ⟨arr, clock, hb, h2, h3, h4⟩ := h.m
  obtain ⟨l, hl⟩ := keyAr hs.r
  have hc := lawAr.check w false hl
  rcases Mc.find (w := w) h3 h4 hs with ⟨f1, f2, f3⟩ | ⟨j, e0, y, f1, f2, f3, f4⟩
  · refine ⟨setBlock w b (.map (arr.push ⟨kn s, .int .i64 (x : Int), clock⟩) (clock + 1)), ?_, ⟨_, _, setBlock_at hb, ?_, ?_, ?_⟩, (But.refl b w).setBlock _, by simp [setBlock]⟩
    · simp only [kn, kv] at f1
      simp only [kv] at hc
      simp [Instr.mapUpdate, run_underlying undPs, MapKept.run_getObj_map hb, hc, f1, MapKept.run_setObj_map _ hb, setBlock, kn, kv]
    · simp only [Array.toList_push, List.map_append, List.map_cons, List.map_nil]
      refine List.nodup_append.2 ⟨h2, by simp, fun a ha c hc' e1 => ?_⟩
      simp only [List.mem_singleton] at hc'
      obtain ⟨e, he, rfl⟩ := List.mem_map.1 ha
      exact f3 e he (e1.trans hc')
    · intro e he
      rw [Array.toList_push, List.mem_append, List.mem_singleton] at he
      rcases he with he | rfl
      · obtain ⟨t, z, g1, g2, g3, g4⟩ := h3 e he
        refine ⟨t, z, g1, g2, ?_, g4⟩
        unfold upd
        rw [if_neg (fun q => f3 e he (by rw [g1, q]))]
        exact g3
      · exact ⟨s, x, rfl, rfl, by unfold upd; rw [if_pos rfl], hs⟩
    · intro t ht
      unfold upd at ht
      by_cases q : t = s
      · subst q
        exact ⟨⟨kn t, .int .i64 (x : Int), clock⟩, by simp, rfl⟩
      · rw [if_neg q] at ht
        obtain ⟨e, he, hk⟩ := h4 t ht
        exact ⟨e, by simp [he], hk⟩
  · have hj : arr[j]? = some e0 := by simpa using f3
    have hlist : (arr.modify j (fun e => { e with key := kn s, val := .int .i64 (x : Int) })).toList = arr.toList.set j ⟨kn s, .int .i64 (x : Int), e0.born⟩ := by
      rw [Array.toList_modify, ChangeMaps.modify_eq_set _ _ _ _ f3]
    have hkeys : (arr.toList.set j ⟨kn s, .int .i64 (x : Int), e0.born⟩).map (·.key) = arr.toList.map (·.key) := by
      rw [List.map_set]
      refine WideElems.set_self _ _ _ ?_
      rw [List.getElem?_map, f3]
      simp [f4]
    refine ⟨setBlock w b (.map (arr.modify j (fun e => { e with key := kn s, val := .int .i64 (x : Int) })) clock), ?_, ⟨_, _, setBlock_at hb, ?_, ?_, ?_⟩, (But.refl b w).setBlock _, by simp [setBlock]⟩
    · have hst := lawAr.stays w hl
      simp only [kn, kv] at f1 f4
      simp only [kv] at hc hst
      simp [Instr.mapUpdate, run_underlying undPs, MapKept.run_getObj_map hb, hc, f1, hj, f4, hst, MapKept.run_setObj_map _ hb, Result.andThen, setBlock, kn, kv]
    · rw [hlist, hkeys]; exact h2
    · intro e he
      rw [hlist] at he
      obtain ⟨k, hk, hke⟩ := List.mem_iff_getElem.1 he
      by_cases q : j = k
      · subst q
        rw [List.getElem_set_self] at hke
        subst hke
        exact ⟨s, x, rfl, rfl, by unfold upd; rw [if_pos rfl], hs⟩
      · rw [List.getElem_set_ne q] at hke
        rw [List.length_set] at hk
        have hm : e ∈ arr.toList := by rw [← hke]; exact List.getElem_mem hk
        obtain ⟨t, z, g1, g2, g3, g4⟩ := h3 e hm
        refine ⟨t, z, g1, g2, ?_, g4⟩
        unfold upd
        rw [if_neg (fun q2 => ?_)]
        · exact g3
        · subst q2
          have hjl := (List.getElem?_eq_some_iff.1 f3).1
          have e2 := (List.getElem?_eq_some_iff.1 f3).2
          have := (List.pairwise_iff_getElem.1 h2)
          rcases Nat.lt_or_gt_of_ne q with c | c
          · exact this j k (by simpa using hjl) (by simpa using hk) c (by rw [List.getElem_map, List.getElem_map, e2, hke, f4, g1])
          · exact this k j (by simpa using hk) (by simpa using hjl) c (by rw [List.getElem_map, List.getElem_map, e2, hke, f4, g1])
    · intro t ht
      rw [hlist]
      have hex : kn t ∈ (arr.toList.set j ⟨kn s, .int .i64 (x : Int), e0.born⟩).map (·.key) := by
        rw [hkeys]
        unfold upd at ht
        by_cases q : t = s
        · subst q
          exact List.mem_map.2 ⟨e0, List.mem_of_getElem? f3, f4⟩
        · rw [if_neg q] at ht
          obtain ⟨e, he, hk⟩ := h4 t ht
          exact List.mem_map.2 ⟨e, he, hk⟩
      obtain ⟨e, he, hk⟩ := List.mem_map.1 hex
      exact ⟨e, he, hk⟩
theorem But.keepC {b : Nat} {w w' : World} (h : But b w w') : Keep (fun k => k = b) w w' := ⟨h.os, h.tape, h.output, h.size, fun k hk hs => h.block k hk hs⟩
theorem Mc.keep {w w' : World} {b : Nat} {f : Pl} {S : Nat → Prop} (h : Mc w b f) (hk : Keep S w w') (hs : ¬ S b) : Mc w' b f := h.heap (hk.block b h.lt hs)
theorem keep_belowC {S : Nat → Prop} {w w' : World} {B : Nat} (h : Keep S w w') (hB : B ≤ w.heap.size) (hS : ∀ k, S k → B ≤ k) : Below B w w' :=
  ⟨h.os, h.tape, h.output, h.size, fun k hk => h.block k (by omega) fun e => by have := hS k e; omega⟩
end Chn
end Go.Proofs.YtappjeepajjioaaDoor
