import Derived.Test.YtblmaokonhdjaaaGreatDoorPkR5
import Derived.Maps.Keyed
import Derived.DeepKeys4
import Derived.WideKeyEntry
import Derived.Test.YtblmaokonhdjaaaGreatDoorPkM1
/- THE PLAIN MATHEMATICS OF LAYER 7: complete subtrees, rows of them, spans; nothing of the program. -/
namespace Go.Proofs.YtblmaokonhdjaaaGreatDoor
namespace Til
open Tree
/-- leaves b up to e -/
def sg (L : List T) (b e : Nat) : List T := (L.take e).drop b
theorem sg_len {L : List T} {b e : Nat} (h : e ≤ L.length) : (sg L b e).length = e - b := by unfold sg; rw [List.length_drop, List.length_take]; omega
theorem sg_hs {L : List T} (h : Hs L) (b e : Nat) : Hs (sg L b e) := (h.take e).drop b
theorem sg_take {L : List T} {b e k : Nat} (h : b + k ≤ e) : (sg L b e).take k = sg L b (b + k) := by
  unfold sg
  rw [List.take_drop, List.take_take]
  congr 2
  omega
theorem sg_drop {L : List T} {b e k : Nat} : (sg L b e).drop k = sg L (b + k) e := by
  unfold sg
  rw [List.drop_drop]
theorem sg_all (L : List T) : sg L 0 L.length = L := by unfold sg; rw [List.take_length, List.drop_zero]
theorem sg_append {L M : List T} {b e : Nat} (h : e ≤ L.length) : sg (L ++ M) b e = sg L b e := by
  unfold sg
  rw [List.take_append_of_le_length h]
theorem sg_nil {L : List T} (b : Nat) : sg L b b = [] := by
  unfold sg
  exact List.drop_eq_nil_of_le (by rw [List.length_take]; omega)
theorem sg_one {L : List T} {b : Nat} (h : b < L.length) : sg L b (b + 1) = [L[b]] := by
  unfold sg
  rw [List.take_add_one, List.getElem?_eq_getElem h, Option.toList_some, List.drop_append_of_le_length (by rw [List.length_take]; omega), List.drop_eq_nil_of_le (by rw [List.length_take]; omega), List.nil_append]
/-- the root of 2^a and some more -/
theorem root_two {L : List T} {b e a : Nat} (he : e ≤ L.length) (h1 : b + 2 ^ a < e) (h2 : e ≤ b + 2 * 2 ^ a) : root (sg L b e) = nd (root (sg L b (b + 2 ^ a))) (root (sg L (b + 2 ^ a) e)) := by
  have hp := Nat.two_pow_pos a
  have hl := sg_len (L := L) (b := b) he
  have hs := sp_one (n := (sg L b e).length) (by omega) a (by omega) (by omega)
  rw [root_cut (by omega), hs, sg_take (by omega), sg_drop]
/-- the hash of a complete subtree -/
def hs (L : List T) (l i : Nat) : T := root (sg L (i * 2 ^ l) ((i + 1) * 2 ^ l))
theorem hs_leaf {L : List T} {i : Nat} (h : i < L.length) : hs L 0 i = L[i] := by
  unfold hs
  rw [Nat.pow_zero, Nat.mul_one, Nat.mul_one, sg_one h, root_one]
theorem hs_node {L : List T} {l i : Nat} (h : (i + 1) * 2 ^ (l + 1) ≤ L.length) : hs L (l + 1) i = nd (hs L l (2 * i)) (hs L l (2 * i + 1)) := by
  unfold hs
  have hp := Nat.two_pow_pos l
  have e1 : i * 2 ^ (l + 1) = 2 * i * 2 ^ l := by rw [Nat.pow_succ, Nat.mul_comm (2 ^ l) 2, ← Nat.mul_assoc, Nat.mul_comm i 2]
  have e2 : (i + 1) * 2 ^ (l + 1) = 2 * i * 2 ^ l + 2 * 2 ^ l := by rw [Nat.add_mul, e1, Nat.one_mul, Nat.pow_succ]; omega
  have e3 : (2 * i + 1) * 2 ^ l = 2 * i * 2 ^ l + 2 ^ l := by rw [Nat.add_mul, Nat.one_mul]
  have e4 : (2 * i + 1 + 1) * 2 ^ l = 2 * i * 2 ^ l + 2 * 2 ^ l := by rw [Nat.add_mul, Nat.one_mul, e3]; omega
  rw [e1, e2, e3, e4, root_two (a := l) (by omega) (by omega) (by omega)]
theorem hs_append {L M : List T} {l i : Nat} (h : (i + 1) * 2 ^ l ≤ L.length) : hs (L ++ M) l i = hs L l i := by
  unfold hs
  rw [sg_append h]
theorem hs_hash {L : List T} (h : Hs L) (l i : Nat) : (hs L l i).length = 32 := root_hash (sg_hs h _ _)
/-- a row of complete subtrees, of which there are c -/
def row (L : List T) (h c l i : Nat) : List T := (List.range (min (2 ^ h) (c - i * 2 ^ h))).map fun t => hs L l (i * 2 ^ h + t)
theorem row_len (L : List T) (h c l i : Nat) : (row L h c l i).length = min (2 ^ h) (c - i * 2 ^ h) := by unfold row; rw [List.length_map, List.length_range]
theorem row_hs {L : List T} (hL : Hs L) (h c l i : Nat) : Hs (row L h c l i) := fun x hx => by
  obtain ⟨t, _, rfl⟩ := List.mem_map.1 hx
  exact hs_hash hL _ _
theorem row_get {L : List T} {h c l i t : Nat} (ht : t < min (2 ^ h) (c - i * 2 ^ h)) : (row L h c l i)[t]? = some (hs L l (i * 2 ^ h + t)) := by
  unfold row
  rw [List.getElem?_map, List.getElem?_range ht]
  rfl
/-- the hash stands in its row -/
theorem row_at {L : List T} {h c l i : Nat} (hi : i < c) : (row L h c l (i / 2 ^ h))[i % 2 ^ h]? = some (hs L l i) := by
  have hp := Nat.two_pow_pos h
  have h1 := Nat.mod_lt i hp
  have h2 : i / 2 ^ h * 2 ^ h + i % 2 ^ h = i := by rw [Nat.mul_comm]; exact Nat.div_add_mod i _
  rw [row_get (by omega), h2]
theorem row_more {L : List T} (h c l : Nat) : row L h (c + 1) l (c / 2 ^ h) = row L h c l (c / 2 ^ h) ++ [hs L l c] := by
  have hp := Nat.two_pow_pos h
  have h1 := Nat.mod_lt c hp
  have h2 : c / 2 ^ h * 2 ^ h + c % 2 ^ h = c := by rw [Nat.mul_comm]; exact Nat.div_add_mod c _
  unfold row
  rw [show min (2 ^ h) (c + 1 - c / 2 ^ h * 2 ^ h) = c % 2 ^ h + 1 by omega, show min (2 ^ h) (c - c / 2 ^ h * 2 ^ h) = c % 2 ^ h by omega, List.range_succ, List.map_append]
  simp only [List.map_cons, List.map_nil, h2]
theorem row_other {L : List T} {h c l i : Nat} (hi : i ≠ c / 2 ^ h) : row L h (c + 1) l i = row L h c l i := by
  have hp := Nat.two_pow_pos h
  have h1 := Nat.mod_lt c hp
  have h2 : c / 2 ^ h * 2 ^ h + c % 2 ^ h = c := by rw [Nat.mul_comm]; exact Nat.div_add_mod c _
  unfold row
  congr 2
  rcases Nat.lt_or_gt_of_ne hi with h3 | h3
  · have h4 : (i + 1) * 2 ^ h ≤ c / 2 ^ h * 2 ^ h := Nat.mul_le_mul_right _ h3
    rw [Nat.add_mul, Nat.one_mul] at h4
    omega
  · have h4 : (c / 2 ^ h + 1) * 2 ^ h ≤ i * 2 ^ h := Nat.mul_le_mul_right _ h3
    rw [Nat.add_mul, Nat.one_mul] at h4
    omega
theorem row_append {L M : List T} {h c l i : Nat} (hc : c * 2 ^ l ≤ L.length) : row (L ++ M) h c l i = row L h c l i := by
  unfold row
  apply List.map_congr_left
  intro t ht
  rw [List.mem_range] at ht
  apply hs_append
  have : (i * 2 ^ h + t + 1) * 2 ^ l ≤ c * 2 ^ l := Nat.mul_le_mul_right _ (by omega)
  omega
/-- all rows, of cnt l subtrees at level l -/
def rf (L : List T) (h : Nat) (cnt : Nat → Nat) (p : Int × Int) : List T := if 0 ≤ p.1 ∧ 0 ≤ p.2 then row L h (cnt p.1.toNat) p.1.toNat p.2.toNat else []
def cn (n l : Nat) : Nat := n / 2 ^ l
def up (cnt : Nat → Nat) (l : Nat) : Nat → Nat := fun k => if k = l then cnt l + 1 else cnt k
theorem rf_nat (L : List T) (h : Nat) (cnt : Nat → Nat) (l i : Nat) : rf L h cnt ((l : Int), (i : Int)) = row L h (cnt l) l i := by
  unfold rf
  rw [if_pos ⟨Int.natCast_nonneg _, Int.natCast_nonneg _⟩, Int.toNat_natCast, Int.toNat_natCast]
theorem rf_up_same (L : List T) (h : Nat) (cnt : Nat → Nat) (l : Nat) : rf L h (up cnt l) ((l : Int), ((cnt l / 2 ^ h : Nat) : Int)) = rf L h cnt ((l : Int), ((cnt l / 2 ^ h : Nat) : Int)) ++ [hs L l (cnt l)] := by
  rw [rf_nat, rf_nat]
  unfold up
  rw [if_pos rfl]
  exact row_more h (cnt l) l
theorem rf_up_other (L : List T) (h : Nat) (cnt : Nat → Nat) (l : Nat) {p : Int × Int} (hp : p ≠ ((l : Int), ((cnt l / 2 ^ h : Nat) : Int))) : rf L h (up cnt l) p = rf L h cnt p := by
  unfold rf
  by_cases h0 : 0 ≤ p.1 ∧ 0 ≤ p.2
  · rw [if_pos h0, if_pos h0]
    unfold up
    by_cases hl : p.1.toNat = l
    · rw [if_pos hl]
      subst hl
      refine row_other fun e => hp ?_
      have h1 : p.1 = ((p.1.toNat : Nat) : Int) := by omega
      have h2 : p.2 = ((p.2.toNat : Nat) : Int) := by omega
      apply Prod.ext
      · exact h1
      · rw [← e]; exact h2
    · rw [if_neg hl]
  · rw [if_neg h0, if_neg h0]
theorem rf_append {L M : List T} {h : Nat} {cnt : Nat → Nat} (hc : ∀ l, cnt l * 2 ^ l ≤ L.length) (p : Int × Int) : rf (L ++ M) h cnt p = rf L h cnt p := by
  unfold rf
  split
  · exact row_append (hc _)
  · rfl
theorem cn_le (n l : Nat) : cn n l * 2 ^ l ≤ n := Nat.div_mul_le_self n _
/-- while a leaf is taken: up to level k all is as with it -/
def gc (n k : Nat) : Nat → Nat := fun l => if l < k then cn (n + 1) l else cn n l
theorem gc_zero (n : Nat) : gc n 0 = cn n := by funext l; unfold gc; rw [if_neg (by omega)]
theorem cn_more {n k : Nat} (h : 2 ^ k ∣ n + 1) : cn (n + 1) k = cn n k + 1 := by
  unfold cn
  obtain ⟨c, hc⟩ := h
  have hp := Nat.two_pow_pos k
  have h1 : 0 < c := by
    rcases Nat.eq_zero_or_pos c with h0 | h0
    · rw [h0, Nat.mul_zero] at hc; omega
    · exact h0
  rw [hc, Nat.mul_div_cancel_left _ hp]
  have : n / 2 ^ k = c - 1 := by
    apply Nat.div_eq_of_lt_le
    · rw [Nat.mul_comm, Nat.mul_sub]; omega
    · rw [show c - 1 + 1 = c by omega, Nat.mul_comm]; omega
  omega
theorem cn_same {n k : Nat} (h : ¬ 2 ^ k ∣ n + 1) : cn (n + 1) k = cn n k := by
  unfold cn
  have hp := Nat.two_pow_pos k
  have h1 : (n + 1) / 2 ^ k = if 2 ^ k ∣ n + 1 then n / 2 ^ k + 1 else n / 2 ^ k := by rw [Nat.succ_div]; split <;> omega
  rw [h1, if_neg h]
theorem gc_up {n k : Nat} (h : 2 ^ k ∣ n + 1) : up (gc n k) k = gc n (k + 1) := by
  funext l
  unfold up gc
  by_cases hl : l = k
  · subst hl
    rw [if_pos rfl, if_neg (by omega), if_pos (by omega), cn_more h]
  · rw [if_neg hl]
    by_cases h2 : l < k
    · rw [if_pos h2, if_pos (by omega)]
    · rw [if_neg h2, if_neg (by omega)]
theorem gc_end {n k : Nat} (h : ¬ 2 ^ k ∣ n + 1) : gc n k = cn (n + 1) := by
  funext l
  unfold gc
  by_cases hl : l < k
  · rw [if_pos hl]
  · rw [if_neg hl]
    exact (cn_same fun h1 => h (Nat.dvd_trans (Nat.pow_dvd_pow 2 (by omega)) h1)).symm
end Til
end Go.Proofs.YtblmaokonhdjaaaGreatDoor

namespace Go.Proofs.YtblmaokonhdjaaaGreatDoor
open Go.RowKit
open Go.WideMaps (KeyLaw)
open Go.ChangeMaps (setBlock)
open Go.MapKept (Stamped)
theorem laidOutT : laidOutB Tryz.prog = true := by kernel_rfl
theorem rowPl : (250 : TypeId) < Tryz.prog.types.size := of_decide_eq_true (by kernel_rfl)
theorem widePl : (match Tryz.prog.underlying 250 with | some (.array _ _) | some (.struct _) => true | _ => false) = true := by kernel_rfl
theorem keyAtPl : Tryz.prog.keyTypeAt 2 250 = true := by kernel_rfl
set_option maxRecDepth 1000000 in
theorem lawPl : KeyLaw Tryz.prog 250 := deep_law_laid laidOutT (m := 2) (by omega) rowPl keyAtPl widePl
theorem undMp : Tryz.prog.underlying 156 = some (.map 250 22) := by kernel_rfl
theorem infoSl : (Tryz.prog.info? 22).map (fun i => (i.zero, i.size, i.bytes)) = some (some (.slice none 0 0), 1, 24) := by kernel_rfl
theorem zeroSl (w : World) : (zeroValue 22).run Tryz.prog w = .ok (.slice none 0 0) w := by
  obtain ⟨i0, hi, hz0, hz1, hz2⟩ := info_parts infoSl
  simp [zeroValue, typeInfo, hi, hz0]
/-- a place's value -/
def kv (p : Int × Int) : Value := .agg #[.int .i64 p.1, .int .i64 p.2]
def InR (p : Int × Int) : Prop := (-9223372036854775808 ≤ p.1 ∧ p.1 ≤ 9223372036854775807) ∧ -9223372036854775808 ≤ p.2 ∧ p.2 ≤ 9223372036854775807
theorem kv_inj {p q : Int × Int} (h : kv p = kv q) : p = q := by
  unfold kv at h
  injection h with h
  have h0 := congrArg (fun a : Array Value => a[0]?) h
  have h1 := congrArg (fun a : Array Value => a[1]?) h
  simp at h0 h1
  exact Prod.ext h0 h1
theorem wf64 {a : Int} (h1 : -9223372036854775808 ≤ a) (h2 : a ≤ 9223372036854775807) : (Lit.int .i64 a).wf = true := by
  unfold Lit.wf
  simp [IntKind.min, IntKind.max, IntKind.signed, IntKind.bits]
  omega
theorem keyTy : Tryz.prog.keyType 250 = true := by kernel_rfl
theorem cellsPl : Tryz.prog.cellsOf 250 = 2 := by kernel_rfl
theorem cellsIT : Tryz.prog.cellsOf 3 = 1 := by kernel_rfl
theorem typesT : Tryz.prog.types.size + 1 = (Tryz.prog.types.size - 1) + 1 + 1 := by have h : 0 < Tryz.prog.types.size := Nat.lt_of_le_of_lt (Nat.zero_le _) rowPl; omega
theorem undPl : ∃ f g : Field, Tryz.prog.underlying 250 = some (.struct #[f, g]) ∧ f.type = 3 ∧ g.type = 3 ∧ f.offset = 0 ∧ g.offset = 1 ∧ (f.name != "_") = true ∧ (g.name != "_") = true := by
  exact ⟨_, _, Tryz.underlying250, rfl, rfl, rfl, rfl, by decide, by decide⟩
theorem undI : Tryz.prog.underlying 3 = some (.int .i64) := by kernel_rfl
theorem keyPl {p : Int × Int} (h : InR p) : ∃ l, keyOf Tryz.prog 250 (kv p) = some l := by
  have h1 := wf64 h.1.1 h.1.2
  have h2 := wf64 h.2.1 h.2.2
  obtain ⟨f, g, hu, hf, hg, hfo, hgo, hfn, hgn⟩ := undPl
  have k1 : ∀ (n : Nat) (a : Int), (Lit.int .i64 a).wf = true → Tryz.prog.keyLits (n + 1) 3 [.int .i64 a] = some [.int .i64 a] := fun n a ha => by
    unfold Program.keyLits
    simp [ha]
  have hfm : (kv p).formed Tryz.prog 250 = true := by
    unfold kv Value.formed
    rw [hu]
    simp [cellsPl]
  have h3 : Tryz.prog.keyLits (Tryz.prog.types.size + 1) 250 (kv p).cells.toList = some [.int .i64 p.1, .int .i64 p.2] := by
    have e : (kv p).cells.toList = [.int .i64 p.1, .int .i64 p.2] := rfl
    rw [typesT, e]
    unfold Program.keyLits
    rw [hu]
    simp [cellsPl, cellsIT, hf, hg, hfo, hgo, hfn, hgn, k1 _ _ h1, k1 _ _ h2]
  refine ⟨.string (keyBytes [.int .i64 p.1, .int .i64 p.2]), ?_⟩
  unfold keyOf
  rw [hu]
  simp only [keyTy, hfm, Bool.and_self, if_true, h3, Option.map_some]
/-- a map from places to lists, entry by entry -/
def Mp (w : World) (b : Nat) (es : List ((Int × Int) × Value)) : Prop :=
  ∃ arr clock, w.heap[b]? = some (.map arr clock) ∧ (∀ x ∈ arr.toList, x.born < clock) ∧ (arr.toList.map (·.born)).Nodup ∧ arr.toList.map (fun e => (e.key, e.val)) = es.map (fun x => (kv x.1, x.2)) ∧ es.Pairwise (fun x y => x.1 ≠ y.1) ∧ ∀ x ∈ es, InR x.1
def has (es : List ((Int × Int) × Value)) (p : Int × Int) : Prop := ∃ v, (p, v) ∈ es
def look (es : List ((Int × Int) × Value)) (p : Int × Int) : Value := ((es.find? (fun x => x.1 == p)).map (·.2)).getD (.slice none 0 0)
def put (es : List ((Int × Int) × Value)) (p : Int × Int) (v : Value) : List ((Int × Int) × Value) := if es.any (fun x => x.1 == p) then es.map (fun x => if x.1 == p then (p, v) else x) else es ++ [(p, v)]
theorem Mp.heap {w w' : World} {b : Nat} {es : List ((Int × Int) × Value)} (h : Mp w b es) (hb : w'.heap[b]? = w.heap[b]?) : Mp w' b es := by
  obtain ⟨arr, clock, h1, h2⟩ := h
  exact ⟨arr, clock, hb.trans h1, h2⟩
theorem Mp.lt {w : World} {b : Nat} {es : List ((Int × Int) × Value)} (h : Mp w b es) : b < w.heap.size := by
  obtain ⟨arr, clock, h1, _⟩ := h
  exact (Array.getElem?_eq_some_iff.1 h1).1
theorem Mp.new (w : World) : Mp (w.alloc (.map #[] 0)) w.heap.size [] :=
  ⟨#[], 0, (MapKept.heap_alloc w _).1, by simp, by simp, rfl, List.Pairwise.nil, by simp⟩
theorem look_mem {es : List ((Int × Int) × Value)} {p : Int × Int} {v : Value} (hn : es.Pairwise (fun x y => x.1 ≠ y.1)) (h : (p, v) ∈ es) : look es p = v := by
  unfold look
  induction es with
  | nil => cases h
  | cons x es ih =>
    obtain ⟨h1, h2⟩ := List.pairwise_cons.1 hn
    rw [List.find?_cons]
    rcases List.mem_cons.1 h with e | e
    · rw [← e]; simp
    · have : (x.1 == p) = false := beq_false_of_ne (h1 _ e)
      rw [this]
      exact ih h2 e
theorem look_none {es : List ((Int × Int) × Value)} {p : Int × Int} (h : ¬ has es p) : look es p = .slice none 0 0 := by
  unfold look
  have : es.find? (fun x => x.1 == p) = none := by
    rw [List.find?_eq_none]
    intro x hx e
    exact h ⟨x.2, by rw [← eq_of_beq e]; exact hx⟩
  rw [this]; rfl
theorem any_has {es : List ((Int × Int) × Value)} {p : Int × Int} : es.any (fun x => x.1 == p) = true ↔ has es p := by
  rw [List.any_eq_true]
  constructor
  · rintro ⟨x, hx, e⟩
    exact ⟨x.2, by rw [← eq_of_beq e]; exact hx⟩
  · rintro ⟨v, hv⟩
    exact ⟨_, hv, by simp⟩
theorem put_hit {es : List ((Int × Int) × Value)} {p : Int × Int} (h : has es p) (v : Value) : put es p v = es.map (fun x => if x.1 == p then (p, v) else x) := by
  unfold put; rw [if_pos (any_has.2 h)]
theorem put_new {es : List ((Int × Int) × Value)} {p : Int × Int} (h : ¬ has es p) (v : Value) : put es p v = es ++ [(p, v)] := by
  unfold put; rw [if_neg (fun e => h (any_has.1 e))]
theorem mem_put {es : List ((Int × Int) × Value)} {p q : Int × Int} {v u : Value} : (q, u) ∈ put es p v ↔ (q = p ∧ u = v) ∨ (q ≠ p ∧ (q, u) ∈ es) := by
  by_cases h : has es p
  · rw [put_hit h, List.mem_map]
    constructor
    · rintro ⟨x, hx, e⟩
      by_cases hp : x.1 == p
      · rw [if_pos hp] at e; cases e; exact .inl ⟨rfl, rfl⟩
      · rw [if_neg hp] at e; subst e; exact .inr ⟨fun e => hp (by simp [e]), hx⟩
    · rintro (⟨rfl, rfl⟩ | ⟨h1, h2⟩)
      · obtain ⟨v', hv'⟩ := h
        exact ⟨_, hv', by simp⟩
      · exact ⟨_, h2, by simp [h1]⟩
  · rw [put_new h, List.mem_append, List.mem_singleton]
    constructor
    · rintro (h1 | h1)
      · exact .inr ⟨fun e => h ⟨u, by rw [← e]; exact h1⟩, h1⟩
      · cases h1; exact .inl ⟨rfl, rfl⟩
    · rintro (⟨rfl, rfl⟩ | ⟨_, h2⟩)
      · exact .inr rfl
      · exact .inl h2
theorem put_keys {es : List ((Int × Int) × Value)} {p : Int × Int} {v : Value} (hn : es.Pairwise (fun x y => x.1 ≠ y.1)) : (put es p v).Pairwise (fun x y => x.1 ≠ y.1) := by
  by_cases h : has es p
  · rw [put_hit h, List.pairwise_map]
    refine hn.imp ?_
    intro x y hxy
    by_cases h1 : x.1 == p <;> by_cases h2 : y.1 == p
    · exact absurd ((eq_of_beq h1).trans (eq_of_beq h2).symm) hxy
    · rw [if_pos h1, if_neg h2]; intro e; exact h2 (by simp at e; simp [← e])
    · rw [if_neg h1, if_pos h2]; intro e; exact h1 (by simp at e; simp [e])
    · rw [if_neg h1, if_neg h2]; exact hxy
  · rw [put_new h, List.pairwise_append]
    refine ⟨hn, List.pairwise_singleton _ _, fun x hx y hy e => ?_⟩
    rw [List.mem_singleton] at hy
    subst hy
    exact h ⟨x.2, by simp only at e; rw [← e]; exact hx⟩
end Go.Proofs.YtblmaokonhdjaaaGreatDoor
