import Derived.Test.YtenklmjeeejfdaaGreatDoorPkR4
import Derived.Maps.Keyed
import Derived.DeepKeys4
import Derived.WideKeyEntry
import Derived.Test.YtenklmjeeejfdaaGreatDoorPkM1
import Derived.Test.YtenklmjeeejfdaaGreatDoorPkI1
/- THE PLAIN MATHEMATICS OF LAYER 7: complete subtrees, rows of them, spans; nothing of the program. -/
namespace Go.Proofs.YtenklmjeeejfdaaGreatDoor
namespace Til
open Tree
def sg (L : List T) (b e : Nat) : List T := (L.take e).drop b
theorem sg_len {L : List T} {b e : Nat} (h : e ≤ L.length) : (sg L b e).length = e - b := by unfold sg; rw [List.length_drop, List.length_take]; omega
theorem sg_hs {L : List T} (h : Hs L) (b e : Nat) : Hs (sg L b e) := (h.take e).drop b
theorem sg_take {L : List T} {b e k : Nat} (h : b + k ≤ e) : (sg L b e).take k = sg L b (b + k) := by
  unfold sg
  rw [List.take_drop, List.take_take]
  congr 2
  omega
theorem sg_drop {L : List T} {b e k : Nat} : (sg L b e).drop k = sg L (b + k) e := by
  unfold sg
  rw [List.drop_drop]
theorem sg_append {L M : List T} {b e : Nat} (h : e ≤ L.length) : sg (L ++ M) b e = sg L b e := by
  unfold sg
  rw [List.take_append_of_le_length h]
theorem sg_one {L : List T} {b : Nat} (h : b < L.length) : sg L b (b + 1) = [L[b]] := by
  unfold sg
  rw [List.take_add_one, List.getElem?_eq_getElem h, Option.toList_some, List.drop_append_of_le_length (by rw [List.length_take]; omega), List.drop_eq_nil_of_le (by rw [List.length_take]; omega), List.nil_append]
theorem root_two {L : List T} {b e a : Nat} (he : e ≤ L.length) (h1 : b + 2 ^ a < e) (h2 : e ≤ b + 2 * 2 ^ a) : root (sg L b e) = nd (root (sg L b (b + 2 ^ a))) (root (sg L (b + 2 ^ a) e)) := by
  have hp := Nat.two_pow_pos a
  have hl := sg_len (L := L) (b := b) he
  have hs := sp_one (n := (sg L b e).length) (by omega) a (by omega) (by omega)
  rw [root_cut (by omega), hs, sg_take (by omega), sg_drop]
def hs (L : List T) (l i : Nat) : T := root (sg L (i * 2 ^ l) ((i + 1) * 2 ^ l))
theorem hs_leaf {L : List T} {i : Nat} (h : i < L.length) : hs L 0 i = L[i] := by
  unfold hs
  rw [Nat.pow_zero, Nat.mul_one, Nat.mul_one, sg_one h, root_one]
theorem hs_node {L : List T} {l i : Nat} (h : (i + 1) * 2 ^ (l + 1) ≤ L.length) : hs L (l + 1) i = nd (hs L l (2 * i)) (hs L l (2 * i + 1)) := by
  unfold hs
  have hp := Nat.two_pow_pos l
  have e1 : i * 2 ^ (l + 1) = 2 * i * 2 ^ l := by rw [Nat.pow_succ, Nat.mul_comm (2 ^ l) 2, ← Nat.mul_assoc, Nat.mul_comm i 2]
  have e2 : (i + 1) * 2 ^ (l + 1) = 2 * i * 2 ^ l + 2 * 2 ^ l := by rw [Nat.add_mul, e1, Nat.one_mul, Nat.pow_succ]; omega
  have e3 : (2 * i + 1) * 2 ^ l = 2 * i * 2 ^ l + 2 ^ l := by rw [Nat.add_mul, Nat.one_mul]
  have e4 : (2 * i + 1 + 1) * 2 ^ l = 2 * i * 2 ^ l + 2 * 2 ^ l := by rw [Nat.add_mul, Nat.one_mul, e3]; omega
  rw [e1, e2, e3, e4, root_two (a := l) (by omega) (by omega) (by omega)]
theorem hs_append {L M : List T} {l i : Nat} (h : (i + 1) * 2 ^ l ≤ L.length) : hs (L ++ M) l i = hs L l i := by
  unfold hs
  rw [sg_append h]
def row (L : List T) (h c l i : Nat) : List T := (List.range (min (2 ^ h) (c - i * 2 ^ h))).map fun t => hs L l (i * 2 ^ h + t)
theorem row_len (L : List T) (h c l i : Nat) : (row L h c l i).length = min (2 ^ h) (c - i * 2 ^ h) := by unfold row; rw [List.length_map, List.length_range]
theorem row_get {L : List T} {h c l i t : Nat} (ht : t < min (2 ^ h) (c - i * 2 ^ h)) : (row L h c l i)[t]? = some (hs L l (i * 2 ^ h + t)) := by
  unfold row
  rw [List.getElem?_map, List.getElem?_range ht]
  rfl
theorem row_at {L : List T} {h c l i : Nat} (hi : i < c) : (row L h c l (i / 2 ^ h))[i % 2 ^ h]? = some (hs L l i) := by
  have hp := Nat.two_pow_pos h
  have h1 := Nat.mod_lt i hp
  have h2 : i / 2 ^ h * 2 ^ h + i % 2 ^ h = i := by rw [Nat.mul_comm]; exact Nat.div_add_mod i _
  rw [row_get (by omega), h2]
theorem row_more {L : List T} (h c l : Nat) : row L h (c + 1) l (c / 2 ^ h) = row L h c l (c / 2 ^ h) ++ [hs L l c] := by
  have hp := Nat.two_pow_pos h
  have h1 := Nat.mod_lt c hp
  have h2 : c / 2 ^ h * 2 ^ h + c % 2 ^ h = c := by rw [Nat.mul_comm]; exact Nat.div_add_mod c _
  unfold row
  rw [show min (2 ^ h) (c + 1 - c / 2 ^ h * 2 ^ h) = c % 2 ^ h + 1 by omega, show min (2 ^ h) (c - c / 2 ^ h * 2 ^ h) = c % 2 ^ h by omega, List.range_succ, List.map_append]
  simp only [List.map_cons, List.map_nil, h2]
theorem row_other {L : List T} {h c l i : Nat} (hi : i ≠ c / 2 ^ h) : row L h (c + 1) l i = row L h c l i := by
  have hp := Nat.two_pow_pos h
  have h1 := Nat.mod_lt c hp
  have h2 : c / 2 ^ h * 2 ^ h + c % 2 ^ h = c := by rw [Nat.mul_comm]; exact Nat.div_add_mod c _
  unfold row
  congr 2
  rcases Nat.lt_or_gt_of_ne hi with h3 | h3
  · have h4 : (i + 1) * 2 ^ h ≤ c / 2 ^ h * 2 ^ h := Nat.mul_le_mul_right _ h3
    rw [Nat.add_mul, Nat.one_mul] at h4
    omega
  · have h4 : (c / 2 ^ h + 1) * 2 ^ h ≤ i * 2 ^ h := Nat.mul_le_mul_right _ h3
    rw [Nat.add_mul, Nat.one_mul] at h4
    omega
theorem row_append {L M : List T} {h c l i : Nat} (hc : c * 2 ^ l ≤ L.length) : row (L ++ M) h c l i = row L h c l i := by
  unfold row
  apply List.map_congr_left
  intro t ht
  rw [List.mem_range] at ht
  apply hs_append
  have : (i * 2 ^ h + t + 1) * 2 ^ l ≤ c * 2 ^ l := Nat.mul_le_mul_right _ (by omega)
  omega
def rf (L : List T) (h : Nat) (cnt : Nat → Nat) (p : Int × Int) : List T := if 0 ≤ p.1 ∧ 0 ≤ p.2 then row L h (cnt p.1.toNat) p.1.toNat p.2.toNat else []
def cn (n l : Nat) : Nat := n / 2 ^ l
def up (cnt : Nat → Nat) (l : Nat) : Nat → Nat := fun k => if k = l then cnt l + 1 else cnt k
theorem rf_nat (L : List T) (h : Nat) (cnt : Nat → Nat) (l i : Nat) : rf L h cnt ((l : Int), (i : Int)) = row L h (cnt l) l i := by
  unfold rf
  rw [if_pos ⟨Int.natCast_nonneg _, Int.natCast_nonneg _⟩, Int.toNat_natCast, Int.toNat_natCast]
theorem rf_up_same (L : List T) (h : Nat) (cnt : Nat → Nat) (l : Nat) : rf L h (up cnt l) ((l : Int), ((cnt l / 2 ^ h : Nat) : Int)) = rf L h cnt ((l : Int), ((cnt l / 2 ^ h : Nat) : Int)) ++ [hs L l (cnt l)] := by
  rw [rf_nat, rf_nat]
  unfold up
  rw [if_pos rfl]
  exact row_more h (cnt l) l
theorem rf_up_other (L : List T) (h : Nat) (cnt : Nat → Nat) (l : Nat) {p : Int × Int} (hp : p ≠ ((l : Int), ((cnt l / 2 ^ h : Nat) : Int))) : rf L h (up cnt l) p = rf L h cnt p := by
  unfold rf
  by_cases h0 : 0 ≤ p.1 ∧ 0 ≤ p.2
  · rw [if_pos h0, if_pos h0]
    unfold up
    by_cases hl : p.1.toNat = l
    · rw [if_pos hl]
      subst hl
      refine row_other fun e => hp ?_
      have h1 : p.1 = ((p.1.toNat : Nat) : Int) := by omega
      have h2 : p.2 = ((p.2.toNat : Nat) : Int) := by omega
      apply Prod.ext
      · exact h1
      · rw [← e]; exact h2
    · rw [if_neg hl]
  · rw [if_neg h0, if_neg h0]
theorem rf_append {L M : List T} {h : Nat} {cnt : Nat → Nat} (hc : ∀ l, cnt l * 2 ^ l ≤ L.length) (p : Int × Int) : rf (L ++ M) h cnt p = rf L h cnt p := by
  unfold rf
  split
  · exact row_append (hc _)
  · rfl
theorem cn_le (n l : Nat) : cn n l * 2 ^ l ≤ n := Nat.div_mul_le_self n _
def gc (n k : Nat) : Nat → Nat := fun l => if l < k then cn (n + 1) l else cn n l
theorem gc_zero (n : Nat) : gc n 0 = cn n := by funext l; unfold gc; rw [if_neg (by omega)]
theorem cn_more {n k : Nat} (h : 2 ^ k ∣ n + 1) : cn (n + 1) k = cn n k + 1 := by
  unfold cn
  obtain ⟨c, hc⟩ := h
  have hp := Nat.two_pow_pos k
  have h1 : 0 < c := by
    rcases Nat.eq_zero_or_pos c with h0 | h0
    · rw [h0, Nat.mul_zero] at hc; omega
    · exact h0
  rw [hc, Nat.mul_div_cancel_left _ hp]
  have : n / 2 ^ k = c - 1 := by
    apply Nat.div_eq_of_lt_le
    · rw [Nat.mul_comm, Nat.mul_sub]; omega
    · rw [show c - 1 + 1 = c by omega, Nat.mul_comm]; omega
  omega
theorem cn_same {n k : Nat} (h : ¬ 2 ^ k ∣ n + 1) : cn (n + 1) k = cn n k := by
  unfold cn
  have hp := Nat.two_pow_pos k
  have h1 : (n + 1) / 2 ^ k = if 2 ^ k ∣ n + 1 then n / 2 ^ k + 1 else n / 2 ^ k := by rw [Nat.succ_div]; split <;> omega
  rw [h1, if_neg h]
theorem gc_up {n k : Nat} (h : 2 ^ k ∣ n + 1) : up (gc n k) k = gc n (k + 1) := by
  funext l
  unfold up gc
  by_cases hl : l = k
  · subst hl
    rw [if_pos rfl, if_neg (by omega), if_pos (by omega), cn_more h]
  · rw [if_neg hl]
    by_cases h2 : l < k
    · rw [if_pos h2, if_pos (by omega)]
    · rw [if_neg h2, if_neg (by omega)]
theorem gc_end {n k : Nat} (h : ¬ 2 ^ k ∣ n + 1) : gc n k = cn (n + 1) := by
  funext l
  unfold gc
  by_cases hl : l < k
  · rw [if_pos hl]
  · rw [if_neg hl]
    exact (cn_same fun h1 => h (Nat.dvd_trans (Nat.pow_dvd_pow 2 (by omega)) h1)).symm
end Til
end Go.Proofs.YtenklmjeeejfdaaGreatDoor

namespace Go.Proofs.YtenklmjeeejfdaaGreatDoor
open Go.RowKit
open Go.WideMaps (KeyLaw)
open Go.ChangeMaps (setBlock)
open Go.MapKept (Stamped)
theorem laidOutT : laidOutB Tryz.prog = true := by kernel_rfl
theorem rowPl : (142 : TypeId) < Tryz.prog.types.size := of_decide_eq_true (by kernel_rfl)
theorem widePl : (match Tryz.prog.underlying 142 with | some (.array _ _) | some (.struct _) => true | _ => false) = true := by kernel_rfl
theorem keyAtPl : Tryz.prog.keyTypeAt 2 142 = true := by kernel_rfl
set_option maxRecDepth 1000000 in
theorem lawPl : KeyLaw Tryz.prog 142 := deep_law_laid laidOutT (m := 2) (by omega) rowPl keyAtPl widePl
theorem undMp : Tryz.prog.underlying 91 = some (.map 142 23) := by kernel_rfl
theorem infoSl : (Tryz.prog.info? 23).map (fun i => (i.zero, i.size, i.bytes)) = some (some (.slice none 0 0), 1, 24) := by kernel_rfl
theorem zeroSl (w : World) : (zeroValue 23).run Tryz.prog w = .ok (.slice none 0 0) w := by
  obtain ⟨i0, hi, hz0, hz1, hz2⟩ := info_parts infoSl
  simp [zeroValue, typeInfo, hi, hz0]
def kv (p : Int × Int) : Value := .agg #[.int .i64 p.1, .int .i64 p.2]
def InR (p : Int × Int) : Prop := (-9223372036854775808 ≤ p.1 ∧ p.1 ≤ 9223372036854775807) ∧ -9223372036854775808 ≤ p.2 ∧ p.2 ≤ 9223372036854775807
theorem kv_inj {p q : Int × Int} (h : kv p = kv q) : p = q := by
  unfold kv at h
  injection h with h
  have h0 := congrArg (fun a : Array Value => a[0]?) h
  have h1 := congrArg (fun a : Array Value => a[1]?) h
  simp at h0 h1
  exact Prod.ext h0 h1
theorem wf64 {a : Int} (h1 : -9223372036854775808 ≤ a) (h2 : a ≤ 9223372036854775807) : (Lit.int .i64 a).wf = true := by
  unfold Lit.wf
  simp [IntKind.min, IntKind.max, IntKind.signed, IntKind.bits]
  omega
theorem keyTy : Tryz.prog.keyType 142 = true := by kernel_rfl
theorem cellsPl : Tryz.prog.cellsOf 142 = 2 := by kernel_rfl
theorem cellsIT : Tryz.prog.cellsOf 3 = 1 := by kernel_rfl
theorem typesT : Tryz.prog.types.size + 1 = (Tryz.prog.types.size - 1) + 1 + 1 := by have h : 0 < Tryz.prog.types.size := Nat.lt_of_le_of_lt (Nat.zero_le _) rowPl; omega
theorem undPl : ∃ f g : Field, Tryz.prog.underlying 142 = some (.struct #[f, g]) ∧ f.type = 3 ∧ g.type = 3 ∧ f.offset = 0 ∧ g.offset = 1 ∧ (f.name != "_") = true ∧ (g.name != "_") = true := by
  exact ⟨_, _, Tryz.underlying142, rfl, rfl, rfl, rfl, by decide, by decide⟩
theorem keyPl {p : Int × Int} (h : InR p) : ∃ l, keyOf Tryz.prog 142 (kv p) = some l := by
  have h1 := wf64 h.1.1 h.1.2
  have h2 := wf64 h.2.1 h.2.2
  obtain ⟨f, g, hu, hf, hg, hfo, hgo, hfn, hgn⟩ := undPl
  have k1 : ∀ (n : Nat) (a : Int), (Lit.int .i64 a).wf = true → Tryz.prog.keyLits (n + 1) 3 [.int .i64 a] = some [.int .i64 a] := fun n a ha => by
    unfold Program.keyLits
    simp [ha]
  have hfm : (kv p).formed Tryz.prog 142 = true := by
    unfold kv Value.formed
    rw [hu]
    simp [cellsPl]
  have h3 : Tryz.prog.keyLits (Tryz.prog.types.size + 1) 142 (kv p).cells.toList = some [.int .i64 p.1, .int .i64 p.2] := by
    have e : (kv p).cells.toList = [.int .i64 p.1, .int .i64 p.2] := rfl
    rw [typesT, e]
    unfold Program.keyLits
    rw [hu]
    simp [cellsPl, cellsIT, hf, hg, hfo, hgo, hfn, hgn, k1 _ _ h1, k1 _ _ h2]
  refine ⟨.string (keyBytes [.int .i64 p.1, .int .i64 p.2]), ?_⟩
  unfold keyOf
  rw [hu]
  simp only [keyTy, hfm, Bool.and_self, if_true, h3, Option.map_some]
def Mp (w : World) (b : Nat) (es : List ((Int × Int) × Value)) : Prop :=
  ∃ arr clock, w.heap[b]? = some (.map arr clock) ∧ (∀ x ∈ arr.toList, x.born < clock) ∧ (arr.toList.map (·.born)).Nodup ∧ arr.toList.map (fun e => (e.key, e.val)) = es.map (fun x => (kv x.1, x.2)) ∧ es.Pairwise (fun x y => x.1 ≠ y.1) ∧ ∀ x ∈ es, InR x.1
def has (es : List ((Int × Int) × Value)) (p : Int × Int) : Prop := ∃ v, (p, v) ∈ es
def look (es : List ((Int × Int) × Value)) (p : Int × Int) : Value := ((es.find? (fun x => x.1 == p)).map (·.2)).getD (.slice none 0 0)
def put (es : List ((Int × Int) × Value)) (p : Int × Int) (v : Value) : List ((Int × Int) × Value) := if es.any (fun x => x.1 == p) then es.map (fun x => if x.1 == p then (p, v) else x) else es ++ [(p, v)]
theorem Mp.heap {w w' : World} {b : Nat} {es : List ((Int × Int) × Value)} (h : Mp w b es) (hb : w'.heap[b]? = w.heap[b]?) : Mp w' b es := by
  obtain ⟨arr, clock, h1, h2⟩ := h
  exact ⟨arr, clock, hb.trans h1, h2⟩
theorem Mp.lt {w : World} {b : Nat} {es : List ((Int × Int) × Value)} (h : Mp w b es) : b < w.heap.size := by
  obtain ⟨arr, clock, h1, _⟩ := h
  exact (Array.getElem?_eq_some_iff.1 h1).1
theorem Mp.new (w : World) : Mp (w.alloc (.map #[] 0)) w.heap.size [] :=
  ⟨#[], 0, (MapKept.heap_alloc w _).1, by simp, by simp, rfl, List.Pairwise.nil, by simp⟩
theorem look_mem {es : List ((Int × Int) × Value)} {p : Int × Int} {v : Value} (hn : es.Pairwise (fun x y => x.1 ≠ y.1)) (h : (p, v) ∈ es) : look es p = v := by
  unfold look
  induction es with
  | nil => cases h
  | cons x es ih =>
    obtain ⟨h1, h2⟩ := List.pairwise_cons.1 hn
    rw [List.find?_cons]
    rcases List.mem_cons.1 h with e | e
    · rw [← e]; simp
    · have : (x.1 == p) = false := beq_false_of_ne (h1 _ e)
      rw [this]
      exact ih h2 e
theorem look_none {es : List ((Int × Int) × Value)} {p : Int × Int} (h : ¬ has es p) : look es p = .slice none 0 0 := by
  unfold look
  have : es.find? (fun x => x.1 == p) = none := by
    rw [List.find?_eq_none]
    intro x hx e
    exact h ⟨x.2, by rw [← eq_of_beq e]; exact hx⟩
  rw [this]; rfl
theorem any_has {es : List ((Int × Int) × Value)} {p : Int × Int} : es.any (fun x => x.1 == p) = true ↔ has es p := by
  rw [List.any_eq_true]
  constructor
  · rintro ⟨x, hx, e⟩
    exact ⟨x.2, by rw [← eq_of_beq e]; exact hx⟩
  · rintro ⟨v, hv⟩
    exact ⟨_, hv, by simp⟩
theorem put_hit {es : List ((Int × Int) × Value)} {p : Int × Int} (h : has es p) (v : Value) : put es p v = es.map (fun x => if x.1 == p then (p, v) else x) := by
  unfold put; rw [if_pos (any_has.2 h)]
theorem put_new {es : List ((Int × Int) × Value)} {p : Int × Int} (h : ¬ has es p) (v : Value) : put es p v = es ++ [(p, v)] := by
  unfold put; rw [if_neg (fun e => h (any_has.1 e))]
theorem mem_put {es : List ((Int × Int) × Value)} {p q : Int × Int} {v u : Value} : (q, u) ∈ put es p v ↔ (q = p ∧ u = v) ∨ (q ≠ p ∧ (q, u) ∈ es) := by
  by_cases h : has es p
  · rw [put_hit h, List.mem_map]
    constructor
    · rintro ⟨x, hx, e⟩
      by_cases hp : x.1 == p
      · rw [if_pos hp] at e; cases e; exact .inl ⟨rfl, rfl⟩
      · rw [if_neg hp] at e; subst e; exact .inr ⟨fun e => hp (by simp [e]), hx⟩
    · rintro (⟨rfl, rfl⟩ | ⟨h1, h2⟩)
      · obtain ⟨v', hv'⟩ := h
        exact ⟨_, hv', by simp⟩
      · exact ⟨_, h2, by simp [h1]⟩
  · rw [put_new h, List.mem_append, List.mem_singleton]
    constructor
    · rintro (h1 | h1)
      · exact .inr ⟨fun e => h ⟨u, by rw [← e]; exact h1⟩, h1⟩
      · cases h1; exact .inl ⟨rfl, rfl⟩
    · rintro (⟨rfl, rfl⟩ | ⟨_, h2⟩)
      · exact .inr rfl
      · exact .inl h2
theorem put_keys {es : List ((Int × Int) × Value)} {p : Int × Int} {v : Value} (hn : es.Pairwise (fun x y => x.1 ≠ y.1)) : (put es p v).Pairwise (fun x y => x.1 ≠ y.1) := by
  by_cases h : has es p
  · rw [put_hit h, List.pairwise_map]
    refine hn.imp ?_
    intro x y hxy
    by_cases h1 : x.1 == p <;> by_cases h2 : y.1 == p
    · exact absurd ((eq_of_beq h1).trans (eq_of_beq h2).symm) hxy
    · rw [if_pos h1, if_neg h2]; intro e; exact h2 (by simp at e; simp [← e])
    · rw [if_neg h1, if_pos h2]; intro e; exact h1 (by simp at e; simp [e])
    · rw [if_neg h1, if_neg h2]; exact hxy
  · rw [put_new h, List.pairwise_append]
    refine ⟨hn, List.pairwise_singleton _ _, fun x hx y hy e => ?_⟩
    rw [List.mem_singleton] at hy
    subst hy
    exact h ⟨x.2, by simp only at e; rw [← e]; exact hx⟩
end Go.Proofs.YtenklmjeeejfdaaGreatDoor

namespace Go.Proofs.YtenklmjeeejfdaaGreatDoor
open Go.RowKit
open Go.WideMaps (KeyLaw)
open Go.ChangeMaps (setBlock)
theorem Mp.keysOk {arr : Array MapEntry} {es : List ((Int × Int) × Value)} (h : arr.toList.map (fun e => (e.key, e.val)) = es.map (fun x => (kv x.1, x.2))) (hr : ∀ x ∈ es, InR x.1) : ∀ e ∈ arr.toList, ∃ l, keyOf Tryz.prog 142 e.key = some l := fun e he => by
  have h1 : (e.key, e.val) ∈ es.map (fun x => (kv x.1, x.2)) := by rw [← h]; exact List.mem_map.2 ⟨e, he, rfl⟩
  obtain ⟨x, hx, hxe⟩ := List.mem_map.1 h1
  injection hxe with h2 h3
  rw [← h2]
  exact keyPl (hr x hx)
theorem Mp.memE {arr : Array MapEntry} {es : List ((Int × Int) × Value)} {p : Int × Int} (h : arr.toList.map (fun e => (e.key, e.val)) = es.map (fun x => (kv x.1, x.2))) {e : MapEntry} (he : e ∈ arr.toList) (hk : e.key = kv p) : (p, e.val) ∈ es := by
  have h1 : (e.key, e.val) ∈ es.map (fun x => (kv x.1, x.2)) := by rw [← h]; exact List.mem_map.2 ⟨e, he, rfl⟩
  obtain ⟨x, hx, hxe⟩ := List.mem_map.1 h1
  injection hxe with h2 h3
  have := kv_inj (h2.trans hk)
  rw [← this, ← h3]
  exact hx
theorem Mp.notE {arr : Array MapEntry} {es : List ((Int × Int) × Value)} {p : Int × Int} (h : arr.toList.map (fun e => (e.key, e.val)) = es.map (fun x => (kv x.1, x.2))) (hk : ∀ e ∈ arr.toList, e.key ≠ kv p) : ¬ has es p := fun ⟨v, hv⟩ => by
  have h1 : (kv p, v) ∈ arr.toList.map (fun e => (e.key, e.val)) := by rw [h]; exact List.mem_map.2 ⟨(p, v), hv, rfl⟩
  obtain ⟨e, he, hxe⟩ := List.mem_map.1 h1
  injection hxe with h2 h3
  exact hk e he h2
theorem Mp.lookup {w : World} {b : Nat} {es : List ((Int × Int) × Value)} (h : Mp w b es) {p : Int × Int} (hp : InR p) : (Instr.lookup 91 (.map (some b)) (kv p) false).run Tryz.prog w = .ok (look es p) w := by
  obtain ⟨arr, clock, hb, h1, h2, h3, h4, h5⟩ := h
  obtain ⟨l, hl⟩ := keyPl hp
  rcases lawPl.find w hl arr.toList (Mp.keysOk h3 h5) with ⟨f1, f2⟩ | ⟨j, e0, f1, f2, f3⟩
  · rw [look_none (Mp.notE h3 f2)]
    simp [Instr.lookup, run_underlying undMp, MapKept.run_getObj_map hb, lawPl.check w _ hl, f1, zeroSl w, Result.andThen]
  · rw [look_mem h4 (Mp.memE h3 (List.mem_of_getElem? f2) f3)]
    simp [Instr.lookup, run_underlying undMp, MapKept.run_getObj_map hb, lawPl.check w _ hl, f1, Result.andThen]
theorem But.setBlock {b : Nat} {w w' : World} (h : But b w w') (o : Obj) : But b w (setBlock w' b o) :=
  ⟨h.os, h.tape, h.output, by simp only [Go.ChangeMaps.setBlock, Array.size_setIfInBounds]; exact h.size, fun k hk hne => by
    have : (Go.ChangeMaps.setBlock w' b o).heap[k]? = w'.heap[k]? := by simp only [Go.ChangeMaps.setBlock]; rw [Array.getElem?_setIfInBounds, if_neg (fun e => hne e.symm)]
    exact this.trans (h.block k hk hne)⟩
theorem setBlock_at {w : World} {b : Nat} {o o' : Obj} (h : w.heap[b]? = some o) : (setBlock w b o').heap[b]? = some o' := by
  have hlt := (Array.getElem?_eq_some_iff.1 h).1
  simp only [Go.ChangeMaps.setBlock]
  rw [Array.getElem?_setIfInBounds, if_pos rfl, if_pos hlt]
theorem Mp.entry {w : World} {b : Nat} {es : List ((Int × Int) × Value)} (h : Mp w b es) {p : Int × Int} (hp : InR p) :
    ∃ (st : Nat) (w1 : World), (Instr.mapEntry 91 (.map (some b)) (kv p)).run Tryz.prog w = .ok (.tuple #[look es p, goInt st]) w1 ∧ But b w w1 ∧ w1.heap.size = w.heap.size ∧ b < w.heap.size ∧
      ∀ (w2 : World) (val : Value), w2.heap[b]? = w1.heap[b]? → ∃ w3, (Instr.entryStore 91 (.map (some b)) (goInt st) val).run Tryz.prog w2 = .ok () w3 ∧ Mp w3 b (put es p val) ∧ But b w2 w3 ∧ w3.heap.size = w2.heap.size := by
  obtain ⟨arr, clock, hb, h1, h2, h3, h4, h5⟩ := h
  obtain ⟨l, hl⟩ := keyPl hp
  have hlt := (Array.getElem?_eq_some_iff.1 hb).1
  rcases lawPl.find w hl arr.toList (Mp.keysOk h3 h5) with ⟨f1, f2⟩ | ⟨j, e0, f1, f2, f3⟩
  · have hno := Mp.notE h3 f2
    rw [look_none hno]
    refine ⟨clock, setBlock w b (.map (arr.push ⟨kv p, .slice none 0 0, clock⟩) (clock + 1)), ?_, (But.refl b w).setBlock _, by simp [setBlock], hlt, fun w2 val hw2 => ?_⟩
    · simp [Instr.mapEntry, run_underlying undMp, MapKept.run_getObj_map hb, lawPl.check w false hl, f1, MapKept.run_setObj_map _ hb, Result.andThen, setBlock]
    · rw [setBlock_at hb] at hw2
      have hidx : (arr.push ⟨kv p, .slice none 0 0, clock⟩).findIdx? (fun e => ((e.born : Nat) : Int) == ((clock : Nat) : Int)) = some arr.size := by
        rw [WideElems.findIdx_arr]
        have := WideElems.findIdx_born (l := (arr.push ⟨kv p, .slice none 0 0, clock⟩).toList) (j := arr.size) (e0 := ⟨kv p, .slice none 0 0, clock⟩) (by
          simp only [Array.toList_push, List.map_append, List.map_cons, List.map_nil]
          refine List.nodup_append.2 ⟨h2, by simp, fun a ha c hc e1 => ?_⟩
          simp only [List.mem_singleton] at hc
          obtain ⟨x, hx, rfl⟩ := List.mem_map.1 ha
          have := h1 x hx
          omega) (by simp)
        exact this
      have hmod : (arr.push ⟨kv p, .slice none 0 0, clock⟩).modify arr.size (fun e => { e with val := val }) = arr.push ⟨kv p, val, clock⟩ := by
        apply Array.ext'
        rw [Array.toList_modify, Array.toList_push, Array.toList_push, ← Array.length_toList, WideElems.modify_last]
      refine ⟨setBlock w2 b (.map (arr.push ⟨kv p, val, clock⟩) (clock + 1)), ?_, ⟨_, _, setBlock_at hw2, ?_, ?_, ?_, put_keys h4, ?_⟩, (But.refl b w2).setBlock _, by simp [setBlock]⟩
      · simp [Instr.entryStore, MapKept.run_getObj_map hw2, asInt, asIntOf, goInt, hidx, hmod, MapKept.run_setObj_map _ hw2, Result.andThen, setBlock]
      · intro x hx
        rw [Array.toList_push, List.mem_append, List.mem_singleton] at hx
        rcases hx with hx | rfl
        · have := h1 x hx; omega
        · simp
      · simp only [Array.toList_push, List.map_append, List.map_cons, List.map_nil]
        refine List.nodup_append.2 ⟨h2, by simp, fun a ha c hc e1 => ?_⟩
        simp only [List.mem_singleton] at hc
        obtain ⟨x, hx, rfl⟩ := List.mem_map.1 ha
        have := h1 x hx
        omega
      · rw [put_new hno]
        simp only [Array.toList_push, List.map_append, List.map_cons, List.map_nil, h3]
      · intro x hx
        rcases mem_put.1 hx with ⟨h6, _⟩ | ⟨_, h6⟩
        · rw [h6]; exact hp
        · exact h5 x h6
  · have hmem := Mp.memE h3 (List.mem_of_getElem? f2) f3
    have hhas : has es p := ⟨_, hmem⟩
    rw [look_mem h4 hmem]
    have hj : arr[j]? = some e0 := by simpa using f2
    have hsame : arr.modify j (fun e => { e with key := kv p }) = arr := by
      apply Array.ext'
      rw [Array.toList_modify, ChangeMaps.modify_eq_set _ _ _ _ f2]
      have : ({ e0 with key := kv p } : MapEntry) = e0 := by rw [← f3]
      rw [this]
      exact WideElems.set_self _ _ _ f2
    refine ⟨e0.born, setBlock w b (.map arr clock), ?_, (But.refl b w).setBlock _, by simp [setBlock], hlt, fun w2 val hw2 => ?_⟩
    · simp [Instr.mapEntry, run_underlying undMp, MapKept.run_getObj_map hb, lawPl.check w false hl, f1, hj, f3, lawPl.stays w hl, hsame, MapKept.run_setObj_map _ hb, Result.andThen, setBlock]
    · rw [setBlock_at hb] at hw2
      have hidx : arr.findIdx? (fun e => ((e.born : Nat) : Int) == ((e0.born : Nat) : Int)) = some j := by
        rw [WideElems.findIdx_arr]
        exact WideElems.findIdx_born h2 f2
      have hlist : (arr.modify j (fun e => { e with val := val })).toList = arr.toList.set j ⟨e0.key, val, e0.born⟩ := by
        rw [Array.toList_modify, ChangeMaps.modify_eq_set _ _ _ _ f2]
      have hborn : (arr.modify j (fun e => { e with val := val })).toList.map (·.born) = arr.toList.map (·.born) := by
        rw [hlist, List.map_set]
        refine WideElems.set_self _ _ _ ?_
        rw [List.getElem?_map, f2]; rfl
      refine ⟨setBlock w2 b (.map (arr.modify j (fun e => { e with val := val })) clock), ?_, ⟨_, _, setBlock_at hw2, ?_, ?_, ?_, put_keys h4, ?_⟩, (But.refl b w2).setBlock _, by simp [setBlock]⟩
      · simp [Instr.entryStore, MapKept.run_getObj_map hw2, asInt, asIntOf, goInt, hidx, MapKept.run_setObj_map _ hw2, Result.andThen, setBlock]
      · intro x hx
        rw [hlist] at hx
        rcases List.mem_or_eq_of_mem_set hx with hx | rfl
        · exact h1 x hx
        · exact h1 e0 (List.mem_of_getElem? f2)
      · rw [hborn]; exact h2
      · rw [put_hit hhas, hlist, List.map_set, h3, List.map_map]
        apply List.ext_getElem?
        intro i
        have hjl : (es.map (fun x => (kv x.1, x.2)))[j]? = some (kv p, e0.val) := by
          rw [← h3, List.getElem?_map, f2, Option.map_some, f3]
        by_cases hij : j = i
        · subst hij
          have hjb := (List.getElem?_eq_some_iff.1 hjl).1
          rw [List.getElem?_set_self hjb, List.getElem?_map]
          rw [List.getElem?_map, Option.map_eq_some_iff] at hjl
          obtain ⟨x, hx, hxe⟩ := hjl
          have g1 : kv x.1 = kv p := congrArg Prod.fst hxe
          have gx := kv_inj g1
          rw [hx, Option.map_some, Function.comp, gx, f3]
          simp only [beq_self_eq_true, if_true]
        · rw [List.getElem?_set_ne hij, List.getElem?_map, List.getElem?_map]
          cases hx : es[i]? with
          | none => rfl
          | some x =>
            have hne : x.1 ≠ p := fun e => by
              rw [List.getElem?_map, Option.map_eq_some_iff] at hjl
              obtain ⟨y, hy, hye⟩ := hjl
              injection hye with g1 g2
              have hyp := kv_inj g1
              rw [List.pairwise_iff_getElem] at h4
              obtain ⟨i1, i2⟩ := List.getElem?_eq_some_iff.1 hx
              obtain ⟨j1, j2⟩ := List.getElem?_eq_some_iff.1 hy
              rcases Nat.lt_or_gt_of_ne hij with hlt' | hlt'
              · exact h4 j i j1 i1 hlt' (by rw [i2, j2, e, hyp])
              · exact h4 i j i1 j1 hlt' (by rw [i2, j2, e, hyp])
            simp [hne]
      · intro x hx
        rcases mem_put.1 hx with ⟨h6, _⟩ | ⟨_, h6⟩
        · rw [h6]; exact hp
        · exact h5 x h6
end Go.Proofs.YtenklmjeeejfdaaGreatDoor

/- THE PLAIN MATHEMATICS OF LAYER 13: what is told, and what is folded of it; nothing of the program. -/
namespace Go.Proofs.YtenklmjeeejfdaaGreatDoor
namespace Chn
theorem canF_fuel (K : List (Nat × Nat)) : ∀ (f g b n : Nat), n ≤ f → n ≤ g → 1 ≤ n → Tree.canF f b n K = Tree.canF g b n K
  | 0, _, _, _, h, _, h1 => by omega
  | _ + 1, 0, _, _, _, h, h1 => by omega
  | f + 1, g + 1, b, n, hf, hg, h1 => by
    rw [Tree.canF, Tree.canF]
    by_cases h2 : n < 2
    · rw [if_pos h2, if_pos h2]
    · have s1 := Tree.sp_lt (n := n) (by omega)
      have s2 := Tree.sp_pos (n := n) (by omega)
      rw [canF_fuel K f g b (Tree.sp n) (by omega) (by omega) (by omega), canF_fuel K f g (b + Tree.sp n) (n - Tree.sp n) (by omega) (by omega) (by omega)]
theorem fldF_fuel (K : List (Nat × Nat)) (H : List (List UInt8)) : ∀ (f g b n : Nat), n ≤ f → n ≤ g → 1 ≤ n → Tree.canF f b n K = true → Tree.fldF f b n K H = Tree.fldF g b n K H
  | 0, _, _, _, h, _, h1, _ => by omega
  | _ + 1, 0, _, _, _, h, h1, _ => by omega
  | f + 1, g + 1, b, n, hf, hg, h1, hc => by
    rw [Tree.fldF, Tree.fldF]
    rw [Tree.canF] at hc
    by_cases hk : (b, b + n) ∈ K
    · rw [if_pos hk, if_pos hk]
    · rw [if_neg hk] at hc ⊢
      rw [if_neg hk]
      by_cases h2 : n < 2
      · rw [if_pos h2] at hc; cases hc
      · have s1 := Tree.sp_lt (n := n) (by omega)
        have s2 := Tree.sp_pos (n := n) (by omega)
        rw [if_neg h2, Bool.and_eq_true] at hc
        rw [fldF_fuel K H f g b (Tree.sp n) (by omega) (by omega) (by omega) hc.1, fldF_fuel K H f g (b + Tree.sp n) (n - Tree.sp n) (by omega) (by omega) (by omega) hc.2]
def can (K : List (Nat × Nat)) (s : Nat × Nat) : Bool := Tree.canF (s.2 - s.1) s.1 (s.2 - s.1) K
def fld (K : List (Nat × Nat)) (H : List (List UInt8)) (s : Nat × Nat) : List UInt8 := Tree.fldF (s.2 - s.1) s.1 (s.2 - s.1) K H
theorem can_eq (K : List (Nat × Nat)) {x y : Nat} (h : x < y) : can K (x, y) = if (x, y) ∈ K then true else if y - x < 2 then false else can K (x, x + Tree.sp (y - x)) && can K (x + Tree.sp (y - x), y) := by
  unfold can
  dsimp only
  obtain ⟨n, hn⟩ : ∃ n, y - x = n + 1 := ⟨y - x - 1, by omega⟩
  rw [hn, Tree.canF, show x + (n + 1) = y by omega]
  by_cases h2 : n + 1 < 2
  · rw [if_pos h2, if_pos h2]
  · have s1 := Tree.sp_lt (n := n + 1) (by omega)
    have s2 := Tree.sp_pos (n := n + 1) (by omega)
    rw [if_neg h2, if_neg h2, show x + Tree.sp (n + 1) - x = Tree.sp (n + 1) by omega, show y - (x + Tree.sp (n + 1)) = n + 1 - Tree.sp (n + 1) by omega]
    rw [canF_fuel K n (Tree.sp (n + 1)) x _ (by omega) (by omega) (by omega), canF_fuel K n (n + 1 - Tree.sp (n + 1)) (x + Tree.sp (n + 1)) _ (by omega) (by omega) (by omega)]
theorem can_mem {K : List (Nat × Nat)} {x y : Nat} (h : x < y) (hk : (x, y) ∈ K) : can K (x, y) = true := by rw [can_eq K h, if_pos hk]
theorem can_one {K : List (Nat × Nat)} {x y : Nat} (h : x < y) (hk : ¬ (x, y) ∈ K) (h2 : y - x < 2) : can K (x, y) = false := by rw [can_eq K h, if_neg hk, if_pos h2]
theorem can_two {K : List (Nat × Nat)} {x y : Nat} (h : x < y) (hk : ¬ (x, y) ∈ K) (h2 : ¬ y - x < 2) : can K (x, y) = (can K (x, x + Tree.sp (y - x)) && can K (x + Tree.sp (y - x), y)) := by rw [can_eq K h, if_neg hk, if_neg h2]
theorem fld_mem {K : List (Nat × Nat)} {H : List (List UInt8)} {x y : Nat} (h : x < y) (hk : (x, y) ∈ K) : fld K H (x, y) = Tree.hashAt K H (x, y) := by
  unfold fld
  dsimp only
  obtain ⟨n, hn⟩ : ∃ n, y - x = n + 1 := ⟨y - x - 1, by omega⟩
  rw [hn, Tree.fldF, show x + (n + 1) = y by omega, if_pos hk]
theorem fld_two {K : List (Nat × Nat)} {H : List (List UInt8)} {x y : Nat} (h : x < y) (hk : ¬ (x, y) ∈ K) (hc : can K (x, y) = true) : 2 ≤ y - x ∧ can K (x, x + Tree.sp (y - x)) = true ∧ can K (x + Tree.sp (y - x), y) = true ∧ fld K H (x, y) = Tree.nd (fld K H (x, x + Tree.sp (y - x))) (fld K H (x + Tree.sp (y - x), y)) := by
  rw [can_eq K h, if_neg hk] at hc
  by_cases h2 : y - x < 2
  · rw [if_pos h2] at hc; cases hc
  · rw [if_neg h2, Bool.and_eq_true] at hc
    refine ⟨by omega, hc.1, hc.2, ?_⟩
    unfold can at hc
    unfold fld
    dsimp only at hc ⊢
    obtain ⟨n, hn⟩ : ∃ n, y - x = n + 1 := ⟨y - x - 1, by omega⟩
    have s1 := Tree.sp_lt (n := n + 1) (by omega)
    have s2 := Tree.sp_pos (n := n + 1) (by omega)
    rw [hn, show x + Tree.sp (n + 1) - x = Tree.sp (n + 1) by omega, show y - (x + Tree.sp (n + 1)) = n + 1 - Tree.sp (n + 1) by omega] at hc
    rw [hn, Tree.fldF, show x + (n + 1) = y by omega, if_neg hk, show x + Tree.sp (n + 1) - x = Tree.sp (n + 1) by omega, show y - (x + Tree.sp (n + 1)) = n + 1 - Tree.sp (n + 1) by omega]
    rw [fldF_fuel K H n (Tree.sp (n + 1)) x _ (by omega) (by omega) (by omega) (by rw [canF_fuel K n (Tree.sp (n + 1)) x _ (by omega) (by omega) (by omega)]; exact hc.1), fldF_fuel K H n (n + 1 - Tree.sp (n + 1)) (x + Tree.sp (n + 1)) _ (by omega) (by omega) (by omega) (by rw [canF_fuel K n (n + 1 - Tree.sp (n + 1)) (x + Tree.sp (n + 1)) _ (by omega) (by omega) (by omega)]; exact hc.2)]
theorem parts_ind {P : Nat → Nat → Prop} (h : ∀ x y, x < y → (2 ≤ y - x → P x (x + Tree.sp (y - x)) ∧ P (x + Tree.sp (y - x)) y) → P x y) : ∀ (n x y : Nat), y - x ≤ n → x < y → P x y
  | 0, x, y, h0, h1 => by omega
  | n + 1, x, y, h0, h1 => h x y h1 fun h2 => by
    have s1 := Tree.sp_lt (n := y - x) (by omega)
    have s2 := Tree.sp_pos (n := y - x) (by omega)
    exact ⟨parts_ind h n x _ (by omega) (by omega), parts_ind h n _ y (by omega) (by omega)⟩
theorem can_mono {K K' : List (Nat × Nat)} (hK : ∀ t ∈ K, t ∈ K') {x y : Nat} (h : x < y) : can K (x, y) = true → can K' (x, y) = true := by
  refine parts_ind (P := fun x y => can K (x, y) = true → can K' (x, y) = true) ?_ (y - x) x y (Nat.le_refl _) h
  intro x y hxy ih hc
  by_cases hk' : (x, y) ∈ K'
  · exact can_mem hxy hk'
  · have hk : ¬ (x, y) ∈ K := fun e => hk' (hK _ e)
    obtain ⟨h2, c1, c2, _⟩ := fld_two (H := []) hxy hk hc
    rw [can_two hxy hk' (by omega), (ih h2).1 c1, (ih h2).2 c2]
    rfl
theorem can_grow {K : List (Nat × Nat)} {t : Nat × Nat} (ht : can K t = true) {x y : Nat} (h : x < y) : can (K ++ [t]) (x, y) = can K (x, y) := by
  have up := can_mono (K := K) (K' := K ++ [t]) (fun s hs => List.mem_append.2 (.inl hs)) h
  cases hc : can K (x, y) with
  | true => exact up hc
  | false =>
    cases hd : can (K ++ [t]) (x, y) with
    | false => rfl
    | true =>
      exfalso
      have key : can (K ++ [t]) (x, y) = true → can K (x, y) = true := by
        refine parts_ind (P := fun x y => can (K ++ [t]) (x, y) = true → can K (x, y) = true) ?_ (y - x) x y (Nat.le_refl _) h
        intro x y hxy ih hc
        by_cases hk : (x, y) ∈ K
        · exact can_mem hxy hk
        · by_cases hk' : (x, y) = t
          · rw [hk']; exact ht
          · have hk2 : ¬ (x, y) ∈ K ++ [t] := fun e => by
              rcases List.mem_append.1 e with e | e
              · exact hk e
              · exact hk' (List.mem_singleton.1 e)
            obtain ⟨h2, c1, c2, _⟩ := fld_two (H := []) hxy hk2 hc
            rw [can_two hxy hk (by omega), (ih h2).1 c1, (ih h2).2 c2]
            rfl
      rw [key hd] at hc
      cases hc
theorem hashAt_left : ∀ {K : List (Nat × Nat)} {H : List (List UInt8)} {s : Nat × Nat} (E : List (Nat × Nat)) (G : List (List UInt8)), K.length = H.length → s ∈ K → Tree.hashAt (K ++ E) (H ++ G) s = Tree.hashAt K H s
  | [], _, s, _, _, _, h => by cases h
  | k :: K, [], s, _, _, h, _ => by cases h
  | k :: K, x :: H, s, E, G, hl, hs => by
    rw [List.cons_append, List.cons_append, Tree.hashAt, Tree.hashAt]
    by_cases hk : k = s
    · rw [if_pos hk, if_pos hk]
    · rw [if_neg hk, if_neg hk]
      refine hashAt_left E G (by simpa using hl) ?_
      rcases List.mem_cons.1 hs with e | e
      · exact absurd e.symm hk
      · exact e
theorem hashAt_last : ∀ {K : List (Nat × Nat)} {H : List (List UInt8)} {s : Nat × Nat} (x : List UInt8), K.length = H.length → ¬ s ∈ K → Tree.hashAt (K ++ [s]) (H ++ [x]) s = x
  | [], [], s, x, _, _ => by simp [Tree.hashAt]
  | [], _ :: _, s, x, h, _ => by cases h
  | k :: K, [], s, _, h, _ => by cases h
  | k :: K, y :: H, s, x, hl, hs => by
    rw [List.cons_append, List.cons_append, Tree.hashAt, if_neg (fun e => hs (by rw [e]; exact List.mem_cons_self))]
    exact hashAt_last x (by simpa using hl) fun e => hs (List.mem_cons_of_mem _ e)
theorem hashAt_get : ∀ {K : List (Nat × Nat)} {H : List (List UInt8)} {s : Nat × Nat} {j : Nat} {x : List UInt8}, K.Nodup → K[j]? = some s → H[j]? = some x → Tree.hashAt K H s = x
  | [], _, s, j, x, _, h, _ => by simp at h
  | k :: K, [], s, j, x, _, _, h => by simp at h
  | k :: K, y :: H, s, 0, x, _, h, h2 => by
    obtain rfl : k = s := by simpa using h
    obtain rfl : y = x := by simpa using h2
    rw [Tree.hashAt, if_pos rfl]
  | k :: K, y :: H, s, j + 1, x, hn, h, h2 => by
    have hn := List.nodup_cons.1 hn
    have hj : K[j]? = some s := by simpa using h
    rw [Tree.hashAt, if_neg (fun e => hn.1 (by rw [e]; exact List.mem_of_getElem? hj))]
    exact hashAt_get hn.2 hj (by simpa using h2)
theorem fld_old {K E : List (Nat × Nat)} {H G : List (List UInt8)} (hl : K.length = H.length) (hE : ∀ e ∈ E, can K e = false) {x y : Nat} (h : x < y) : can K (x, y) = true → fld (K ++ E) (H ++ G) (x, y) = fld K H (x, y) := by
  refine parts_ind (P := fun x y => can K (x, y) = true → fld (K ++ E) (H ++ G) (x, y) = fld K H (x, y)) ?_ (y - x) x y (Nat.le_refl _) h
  intro x y hxy ih hc
  by_cases hk : (x, y) ∈ K
  · rw [fld_mem hxy hk, fld_mem hxy (List.mem_append.2 (.inl hk)), hashAt_left E G hl hk]
  · have hk2 : ¬ (x, y) ∈ K ++ E := fun e => by
      rcases List.mem_append.1 e with e | e
      · exact hk e
      · rw [hE _ e] at hc; cases hc
    have hc2 : can (K ++ E) (x, y) = true := can_mono (fun s hs => List.mem_append.2 (.inl hs)) hxy hc
    obtain ⟨h2, c1, c2, e1⟩ := fld_two (H := H) hxy hk hc
    obtain ⟨_, _, _, e2⟩ := fld_two (H := H ++ G) hxy hk2 hc2
    rw [e1, e2, (ih h2).1 c1, (ih h2).2 c2]
theorem fld_new {K : List (Nat × Nat)} {H : List (List UInt8)} {t : Nat × Nat} (hl : K.length = H.length) (ht : ¬ t ∈ K) (hct : can K t = true) {x y : Nat} (h : x < y) : can K (x, y) = true → fld (K ++ [t]) (H ++ [fld K H t]) (x, y) = fld K H (x, y) := by
  refine parts_ind (P := fun x y => can K (x, y) = true → fld (K ++ [t]) (H ++ [fld K H t]) (x, y) = fld K H (x, y)) ?_ (y - x) x y (Nat.le_refl _) h
  intro x y hxy ih hc
  by_cases hk : (x, y) ∈ K
  · rw [fld_mem hxy hk, fld_mem hxy (List.mem_append.2 (.inl hk)), hashAt_left _ _ hl hk]
  · by_cases hk' : (x, y) = t
    · subst hk'
      rw [fld_mem hxy (List.mem_append.2 (.inr List.mem_cons_self)), hashAt_last _ hl hk]
    · have hk2 : ¬ (x, y) ∈ K ++ [t] := fun e => by
        rcases List.mem_append.1 e with e | e
        · exact hk e
        · exact hk' (List.mem_singleton.1 e)
      have hc2 : can (K ++ [t]) (x, y) = true := by rw [can_grow hct hxy]; exact hc
      obtain ⟨h2, c1, c2, e1⟩ := fld_two (H := H) hxy hk hc
      obtain ⟨_, _, _, e2⟩ := fld_two (H := H ++ [fld K H t]) hxy hk2 hc2
      rw [e1, e2, (ih h2).1 c1, (ih h2).2 c2]
theorem fld_len {K : List (Nat × Nat)} {H : List (List UInt8)} (hl : K.length = H.length) (h32 : ∀ x ∈ H, x.length = 32) {x y : Nat} (h : x < y) : can K (x, y) = true → (fld K H (x, y)).length = 32 := by
  refine parts_ind (P := fun x y => can K (x, y) = true → (fld K H (x, y)).length = 32) ?_ (y - x) x y (Nat.le_refl _) h
  intro x y hxy ih hc
  by_cases hk : (x, y) ∈ K
  · rw [fld_mem hxy hk]
    have key : ∀ (K : List (Nat × Nat)) (H : List (List UInt8)), K.length = H.length → (∀ x ∈ H, x.length = 32) → (x, y) ∈ K → (Tree.hashAt K H (x, y)).length = 32 := by
      intro K
      induction K with
      | nil => intro H _ _ hk; cases hk
      | cons k K ihK =>
        intro H hl h32 hk
        cases H with
        | nil => cases hl
        | cons z H =>
          rw [Tree.hashAt]
          split
          · exact h32 z List.mem_cons_self
          · rename_i hne
            refine ihK H (by simpa using hl) (fun x hx => h32 x (List.mem_cons_of_mem _ hx)) ?_
            rcases List.mem_cons.1 hk with e | e
            · exact absurd e.symm hne
            · exact e
    exact key K H hl h32 hk
  · obtain ⟨h2, c1, c2, e1⟩ := fld_two (H := H) hxy hk hc
    rw [e1]
    exact Tree.nd_length ((ih h2).1 c1) ((ih h2).2 c2)
end Chn
end Go.Proofs.YtenklmjeeejfdaaGreatDoor
