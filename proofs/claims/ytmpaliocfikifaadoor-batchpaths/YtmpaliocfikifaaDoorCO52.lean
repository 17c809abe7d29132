import Derived.Test.YtmpaliocfikifaaDoorCO25
import Derived.Test.YtmpaliocfikifaaDoorCFN3
import Derived.Test.YtmpaliocfikifaaDoorCO15
import Derived.Deep.RegionHeld3
import Derived.Test.YtmpaliocfikifaaDoorCW3
import Derived.Laws.ResultCell
namespace Go.Proofs.YtmpaliocfikifaaDoor
open Go.RowKit

/-- which blocks hold marks: whose, and how many -/
abbrev Mu := Nat → Option (Nat × Nat)
def nilS : Value := .slice none 0 0
/-- a list all of whose texts are the i-th mark -/
def En (μ : Mu) (i : Nat) (s : Value) : Prop := s = .slice none 0 0 ∨ ∃ g n c ℓ, s = .slice (some ⟨g, 0, none⟩) n c ∧ n ≤ ℓ ∧ ℓ ≤ 2000000 ∧ μ g = some (i, ℓ)
def Bs (X : Nat) (vl vg vh : Value) (k : Nat) : Prop := k = X ∨ vl.ownBlock = some k ∨ vg.ownBlock = some k ∨ vh.ownBlock = some k
def ins (l : List Nat) : List Value := l.map fun (n : Nat) => Value.int .i64 (n : Int)
theorem Own.same {w w' : World} {base : Nat} {v : Value} {cs : List Value} (h : Own w base v cs) (hs : w.heap.size ≤ w'.heap.size) (hb : ∀ k, v.ownBlock = some k → w'.heap[k]? = w.heap[k]?) : Own w' base v cs := h.kept hs hb
theorem En.mono {μ μ' : Mu} (h : ∀ g i ℓ, μ g = some (i, ℓ) → ∃ ℓ', ℓ ≤ ℓ' ∧ ℓ' ≤ 2000000 ∧ μ' g = some (i, ℓ')) {i : Nat} {s : Value} (e : En μ i s) : En μ' i s := by
  rcases e with rfl | ⟨g, n, c, ℓ, rfl, h1, h2, h3⟩
  · exact .inl rfl
  · obtain ⟨ℓ', a, b, c'⟩ := h g i ℓ h3
    exact .inr ⟨g, n, c, ℓ', rfl, by omega, b, c'⟩
/-- the list that grows -/
structure Xs (w : World) (base : Nat) (x : Value) (i ℓ : Nat) (μ : Mu) : Prop where
  own : Own w base x (svs (List.replicate ℓ (mrk i)))
  mrkd : ∀ g, x.ownBlock = some g → μ g = some (i, ℓ)
  en : En μ i x
theorem own_cases {w : World} {base : Nat} {v : Value} {cs : List Value} (h : Own w base v cs) : (v = .slice none 0 0 ∧ cs = []) ∨ ∃ g c, v = .slice (some ⟨g, 0, none⟩) cs.length c ∧ v.ownBlock = some g := by
  rcases h with ⟨rfl, rfl⟩ | ⟨g, c, rfl, _⟩
  · exact .inl ⟨rfl, rfl⟩
  · exact .inr ⟨g, c, rfl, rfl⟩
theorem own_cell {w : World} {base : Nat} {v : Value} {cs : List Value} (h : Own w base v cs) {g : Nat} (hg : v.ownBlock = some g) {j : Nat} {x : Value} (hj : cs[j]? = some x) : w.cell? ⟨g, j, none⟩ = some x := by
  rcases h with ⟨rfl, rfl⟩ | ⟨g', c, rfl, _, _, _, h4, _, _⟩
  · simp at hj
  · cases hg
    have := h4 j x hj
    rwa [Nat.zero_add] at this
end Go.Proofs.YtmpaliocfikifaaDoor

namespace Go.Proofs.YtmpaliocfikifaaDoor
open Go.RowKit
/-- a variable whose first cell is a list of its own -/
structure Nl (w : World) (q : Nat) (C : Array Value) (ty : TypeId) (v : Value) (H : List (List UInt8)) : Prop where
  row : w.heap[q]? = some (.cells C ty (0, 0))
  at0 : C[0]? = some v
  own : Own w 0 v (svs H)
  ne : v.ownBlock ≠ some q
/-- its blocks -/
def Fp (q : Nat) (v : Value) (k : Nat) : Prop := k = q ∨ v.ownBlock = some k
theorem Nl.c0 {w : World} {q : Nat} {C : Array Value} {ty : TypeId} {v : Value} {H : List (List UInt8)} (h : Nl w q C ty v H) : w.cell? ⟨q, 0, none⟩ = some v := by
  rw [cell_of_row w q 0 _ _ _ h.row]; exact h.at0
theorem Nl.f0 {w : World} {q : Nat} {C : Array Value} {ty : TypeId} {v : Value} {H : List (List UInt8)} (h : Nl w q C ty v H) : w.frozen? ⟨q, 0, none⟩ = false := frozen_of_row _ _ _ _ _ h.row
theorem Nl.keep {w w' : World} {q : Nat} {C : Array Value} {ty : TypeId} {v : Value} {H : List (List UInt8)} {S : Nat → Prop} (h : Nl w q C ty v H) (hk : Keep S w w') (hd : ∀ k, Fp q v k → ¬ S k) : Nl w' q C ty v H :=
  ⟨(hk.block q (lt_of_heap h.row) (hd q (.inl rfl))).trans h.row, h.at0, h.own.keep hk fun k hk' => hd k (.inr hk'), h.ne⟩
theorem Nl.below {w w' : World} {q : Nat} {C : Array Value} {ty : TypeId} {v : Value} {H : List (List UInt8)} (h : Nl w q C ty v H) (hb : Below w.heap.size w w') : Nl w' q C ty v H :=
  h.keep (Keep.ofBelow (S := fun _ => False) hb) fun _ _ e => e
theorem Nl.len {w : World} {q : Nat} {C : Array Value} {ty : TypeId} {v : Value} {H : List (List UInt8)} (h : Nl w q C ty v H) : 0 < C.size := by
  have := h.at0
  exact (Array.getElem?_eq_some_iff.1 this).1
theorem Own.cut {w : World} {base g n c m : Nat} {cs ds : List Value} (h : Own w base (.slice (some ⟨g, 0, none⟩) n c) (cs ++ ds)) (hm : cs.length = m) : Own w base (.slice (some ⟨g, 0, none⟩) m c) cs := by
  rcases h with ⟨h, _⟩ | ⟨g', cap', h, h1, h2, h3, h4, h5, h6⟩
  · cases h
  · injection h with e1 e2 e3
    injection e1 with e1
    injection e1 with e1
    subst e1 e3 hm
    rw [List.length_append] at h2
    exact .inr ⟨g, c, rfl, h1, by omega, h3, fun j v hv => h4 j v (by rw [List.getElem?_append_left (List.getElem?_eq_some_iff.1 hv).1]; exact hv), h5, h6⟩
/-- the last one goes: the list is cut where it lies -/
theorem Nl.pop {w : World} {q : Nat} {C : Array Value} {ty : TypeId} {g n c m : Nat} {H : List (List UInt8)} {y : List UInt8} (h : Nl w q C ty (.slice (some ⟨g, 0, none⟩) n c) (H ++ [y])) (hm : H.length = m) :
    Nl (w.setCell ⟨q, 0, none⟩ (.slice (some ⟨g, 0, none⟩) m c)) q (C.setIfInBounds 0 (.slice (some ⟨g, 0, none⟩) m c)) ty (.slice (some ⟨g, 0, none⟩) m c) H := by
  refine ⟨heap_setCell_same w q 0 _ _ _ h.row, by rw [Array.getElem?_setIfInBounds, if_pos rfl, if_pos h.len], ?_, fun e => h.ne e⟩
  have ho := h.own
  rw [show svs (H ++ [y]) = svs H ++ [sv y] by simp [svs]] at ho
  refine (ho.cut (by rw [svs_length]; exact hm)).keep (Keep.ofSet (S := fun k => k = q) w q 0 _ rfl) fun k hk e => ?_
  subst e
  exact h.ne hk
/-- one is laid behind -/
theorem Nl.push {w w' : World} {q : Nat} {C : Array Value} {ty : TypeId} {v v' : Value} {H : List (List UInt8)} {x : List UInt8} (h : Nl w q C ty v H) (hg : Grow w w' v v') (ho : Own w' 0 v' (svs (H ++ [x]))) :
    Nl (w'.setCell ⟨q, 0, none⟩ v') q (C.setIfInBounds 0 v') ty v' (H ++ [x]) ∧ Keep (Fp q v) w (w'.setCell ⟨q, 0, none⟩ v') ∧ ∀ j, v'.ownBlock = some j → v.ownBlock = some j ∨ w.heap.size ≤ j := by
  have hnew : ∀ k, v'.ownBlock = some k → v.ownBlock = some k ∨ w.heap.size ≤ k := fun k hk => by
    rcases hg.alt with e | ⟨e, _⟩
    · left; rw [← e]; exact hk
    · right; exact e k hk
  have hq := lt_of_heap h.row
  have hne : v'.ownBlock ≠ some q := fun e => by
    rcases hnew q e with e' | e'
    · exact h.ne e'
    · omega
  have row1 := (hg.old q hq h.ne).trans h.row
  refine ⟨⟨heap_setCell_same w' q 0 _ _ _ row1, by rw [Array.getElem?_setIfInBounds, if_pos rfl, if_pos h.len], ho.keep (Keep.ofSet (S := fun k => k = q) w' q 0 v' rfl) (fun k hk e => hne (e ▸ hk)), hne⟩, ?_, hnew⟩
  exact (hg.keep.mono fun _ _ e => .inr e).trans (Keep.ofSet (S := fun k => k = q) w' q 0 v' rfl) fun _ _ e => .inl e
theorem set_set (C : Array Value) (x y : Value) : (C.setIfInBounds 0 x).setIfInBounds 0 y = C.setIfInBounds 0 y := by
  apply Array.ext_getElem?
  intro i
  simp only [Array.getElem?_setIfInBounds, Array.size_setIfInBounds]
  split <;> rfl
theorem and1_i64 (E : Nat) (hE : E < 9223372036854775808) : bits .and .i64 (E : Int) 1 = ((E % 2 : Nat) : Int) := by
  have h1 : (BitVec.ofInt 64 (E : Int)).toNat = E := by
    rw [BitVec.ofInt_natCast, BitVec.toNat_ofNat]; exact Nat.mod_eq_of_lt (by omega)
  have h2 : (BitVec.ofInt 64 (1 : Int)).toNat = 1 := by decide
  show IntKind.i64.wrap ((BitVec.ofInt 64 (E : Int) &&& BitVec.ofInt 64 (1 : Int)).toNat : Int) = _
  rw [BitVec.toNat_and, h1, h2, Nat.and_one_is_mod]
  exact wrap_small _ (by omega) (by omega)
theorem bit_is {b k : Nat} (hb : b < 9223372036854775808) : bits .and .i64 ((b : Int) / 2 ^ k) 1 = ((b / 2 ^ k % 2 : Nat) : Int) := by
  have e : ((b : Int) / 2 ^ k) = ((b / 2 ^ k : Nat) : Int) := by simp
  rw [e]
  exact and1_i64 _ (Nat.lt_of_le_of_lt (Nat.div_le_self _ _) hb)
theorem last_split {H : List (List UInt8)} {m : Nat} (h : H.length = m + 1) : ∃ G y, H = G ++ [y] ∧ G.length = m := by
  refine ⟨H.dropLast, H.getLast (fun e => by rw [e] at h; simp at h), (List.dropLast_concat_getLast _).symm, by rw [List.length_dropLast]; omega⟩
end Go.Proofs.YtmpaliocfikifaaDoor

namespace Go.Proofs.YtmpaliocfikifaaDoor
open Go.RowKit
theorem Row.own {w : World} {g : Nat} {L : List (List UInt8)} (h : Row w g L) (hl : L.length ≤ 8796093021952) : Own w 0 (.slice (some ⟨g, 0, none⟩) L.length L.length) (svs L) := by
  refine .inr ⟨g, L.length, by rw [svs_length], Nat.zero_le _, by rw [svs_length]; exact Nat.le_refl _, by rw [maxLen]; omega, rangeAt_of_list h (fun j v hv => by rw [Nat.zero_add]; exact hv), there_of_row h 0 _ (by simp [svs]), h.lt⟩
/-- blocks of F alone were touched; F' has what is new besides -/
structure Mov (F : Nat → Prop) (w w' : World) (F' : Nat → Prop) : Prop where
  keep : Keep F w w'
  new : ∀ k, F' k → F k ∨ w.heap.size ≤ k
/-- F1: what Load answers beside an edge -/
def ldE (n : Int) (l : List (List UInt8)) : Int := if 0 ≤ n ∧ n ≤ 1099511627776 then (if l.length = (Cut.cut 0 n.toNat).length then (if hsB l = true then 0 else 52) else 50) else 1
end Go.Proofs.YtmpaliocfikifaaDoor

namespace Go.Proofs.YtmpaliocfikifaaDoor
open Go.RowKit
namespace Cut
open Tree
theorem cut02 : cut 0 2 = [(0, 2)] := by decide
theorem cmp2 (a b : T) : cmp [a, b] 0 = [nd a b] := by
  show List.map _ (cut 0 2) = _
  rw [cut02]
  show [root [a, b]] = _
  rw [root_cut (by simp)]
  rfl
/-- hashes of hashes are such -/
theorem cmp_hs {L : List T} {a : Nat} (h : Hs L) : Hs (cmp L a) := fun x hx => by
  obtain ⟨q, _, rfl⟩ := List.mem_map.1 hx
  exact root_hash ((h.drop _).take _)
end Cut
theorem hsB_of {l : List (List UInt8)} (h : Tree.Hs l) : hsB l = true := by
  unfold hsB
  rw [List.all_eq_true]
  intro x hx
  simpa using h x hx
theorem Mov.below {F F' : Nat → Prop} {w w' : World} {B : Nat} (h : Mov F w w' F') (hB : B ≤ w.heap.size) (hF : ∀ k, F k → B ≤ k) : Below B w w' ∧ ∀ k, F' k → B ≤ k := by
  refine ⟨⟨h.keep.os, h.keep.tape, h.keep.output, h.keep.size, fun k hk => h.keep.block k (by omega) fun e => ?_⟩, fun k hk => ?_⟩
  · have := hF k e; omega
  · rcases h.new k hk with e | e
    · exact hF k e
    · omega
end Go.Proofs.YtmpaliocfikifaaDoor

namespace Go.Proofs.YtmpaliocfikifaaDoor
open Go.RowKit
theorem Mp.keys {w : World} {b : Nat} {es : List ((Int × Int) × Value)} (h : Mp w b es) : es.Pairwise (fun x y => x.1 ≠ y.1) := by
  obtain ⟨_, _, _, _, _, _, h, _⟩ := h
  exact h
/-- a tree's blocks -/
def Fb (q b : Nat) (es : List ((Int × Int) × Value)) (k : Nat) : Prop := k = q ∨ k = b ∨ ∃ p v, (p, v) ∈ es ∧ v.ownBlock = some k
/-- a tree in memory: its rows are R's -/
structure Tr (w : World) (q b h s : Nat) (es : List ((Int × Int) × Value)) (R : Int × Int → List (List UInt8)) : Prop where
  row : w.heap[q]? = some (.cells #[.int .i64 (h : Int), .int .i64 (s : Int), .map (some b)] 99 (0, 0))
  mp : Mp w b es
  qb : q ≠ b
  el : ∀ p v, (p, v) ∈ es → Own w 0 v (svs (R p)) ∧ ∀ k, v.ownBlock = some k → k ≠ q ∧ k ≠ b
  no : ∀ p, ¬ has es p → R p = []
  apart : ∀ p v p' v' k, (p, v) ∈ es → (p', v') ∈ es → p ≠ p' → v.ownBlock = some k → v'.ownBlock ≠ some k
theorem Own.ltS {w : World} {base : Nat} {v : Value} {cs : List Value} (h : Own w base v cs) : ∀ k, v.ownBlock = some k → k < w.heap.size := by
  rcases h with ⟨rfl, _⟩ | ⟨g, cap, rfl, _, _, _, _, _, h6⟩
  · intro k hk; cases hk
  · intro k hk; cases hk; exact h6
theorem Tr.lt {w : World} {q b h s : Nat} {es : List ((Int × Int) × Value)} {R : Int × Int → List (List UInt8)} (t : Tr w q b h s es R) : ∀ k, Fb q b es k → k < w.heap.size := fun k hk => by
  rcases hk with rfl | rfl | ⟨p, v, hm, hk⟩
  · exact (Array.getElem?_eq_some_iff.1 t.row).1
  · exact t.mp.lt
  · exact (t.el p v hm).1.ltS k hk
theorem Tr.keep {w w' : World} {q b h s : Nat} {es : List ((Int × Int) × Value)} {R : Int × Int → List (List UInt8)} {S : Nat → Prop} (t : Tr w q b h s es R) (hk : Keep S w w') (hd : ∀ k, Fb q b es k → ¬ S k) : Tr w' q b h s es R := by
  have e : ∀ k, Fb q b es k → w'.heap[k]? = w.heap[k]? := fun k hf => hk.block k (t.lt k hf) (hd k hf)
  refine ⟨(e q (.inl rfl)).trans t.row, t.mp.heap (e b (.inr (.inl rfl))), t.qb, fun p v hm => ⟨?_, (t.el p v hm).2⟩, t.no, t.apart⟩
  exact (t.el p v hm).1.kept hk.size fun g hg => e g (.inr (.inr ⟨p, v, hm, hg⟩))
theorem Tr.below {w w' : World} {q b h s : Nat} {es : List ((Int × Int) × Value)} {R : Int × Int → List (List UInt8)} (t : Tr w q b h s es R) (hb : Below w.heap.size w w') : Tr w' q b h s es R :=
  t.keep (S := fun k => w.heap.size ≤ k) ⟨hb.os, hb.tape, hb.output, hb.size, fun k hk _ => hb.block k hk⟩ (fun k hk e => by have := t.lt k hk; omega)
theorem Tr.c0 {w : World} {q b h s : Nat} {es : List ((Int × Int) × Value)} {R : Int × Int → List (List UInt8)} (t : Tr w q b h s es R) : w.cell? ⟨q, 0, none⟩ = some (.int .i64 (h : Int)) := by rw [cell_of_row _ _ _ _ _ _ t.row]; rfl
theorem Tr.c1 {w : World} {q b h s : Nat} {es : List ((Int × Int) × Value)} {R : Int × Int → List (List UInt8)} (t : Tr w q b h s es R) : w.cell? ⟨q, 1, none⟩ = some (.int .i64 (s : Int)) := by rw [cell_of_row _ _ _ _ _ _ t.row]; rfl
theorem Tr.c2 {w : World} {q b h s : Nat} {es : List ((Int × Int) × Value)} {R : Int × Int → List (List UInt8)} (t : Tr w q b h s es R) : w.cell? ⟨q, 2, none⟩ = some (.map (some b)) := by rw [cell_of_row _ _ _ _ _ _ t.row]; rfl
theorem Tr.f1 {w : World} {q b h s : Nat} {es : List ((Int × Int) × Value)} {R : Int × Int → List (List UInt8)} (t : Tr w q b h s es R) : w.frozen? ⟨q, 1, none⟩ = false := frozen_of_row _ _ _ _ _ t.row
theorem Tr.at {w : World} {q b h s : Nat} {es : List ((Int × Int) × Value)} {R : Int × Int → List (List UInt8)} (t : Tr w q b h s es R) (p : Int × Int) : Own w 0 (look es p) (svs (R p)) ∧ ∀ k, (look es p).ownBlock = some k → Fb q b es k ∧ k ≠ q ∧ k ≠ b := by
  by_cases hp : has es p
  · obtain ⟨v, hv⟩ := hp
    rw [look_mem t.mp.keys hv]
    exact ⟨(t.el p v hv).1, fun k hk => ⟨.inr (.inr ⟨p, v, hv, hk⟩), (t.el p v hv).2 k hk⟩⟩
  · rw [look_none hp, t.no p hp]
    exact ⟨Own.nil _ _, fun k hk => (by cases hk)⟩
theorem tOrNone_any (q : Nat) (w : World) : Calls Tryd.prog 57 #[.pointer (some ⟨q, 0, none⟩)] w fun r w' => r = .returned (.pointer (some ⟨q, 0, none⟩)) ∧ w' = w := by
  go_enter Tryd.func57, Tryd.ntmps57
  go_wp2
  go_ret
  exact ⟨rfl, rfl⟩
theorem tSize_any {w : World} {q b h s : Nat} {es : List ((Int × Int) × Value)} {R : Int × Int → List (List UInt8)} (t : Tr w q b h s es R) : Calls Tryd.prog 35 #[.pointer (some ⟨q, 0, none⟩)] w fun r w' => r = .returned (.int .i64 (s : Int)) ∧ w' = w := by
  have h0 := t.c1
  go_enter Tryd.func35, Tryd.ntmps35
  go_wp2_with (go_at_call 57; refine (tOrNone_any q w).mono ?_; rintro e w' ⟨rfl, rfl⟩)
  go_ret
  exact ⟨rfl, rfl⟩
theorem tHeight_any {w : World} {q b h s : Nat} {es : List ((Int × Int) × Value)} {R : Int × Int → List (List UInt8)} (t : Tr w q b h s es R) : Calls Tryd.prog 55 #[.pointer (some ⟨q, 0, none⟩)] w fun r w' => r = .returned (.int .i64 (h : Int)) ∧ w' = w := by
  have h0 := t.c0
  go_enter Tryd.func55, Tryd.ntmps55
  go_wp2_with (go_at_call 57; refine (tOrNone_any q w).mono ?_; rintro e w' ⟨rfl, rfl⟩)
  go_ret
  exact ⟨rfl, rfl⟩
end Go.Proofs.YtmpaliocfikifaaDoor

namespace Go.Proofs.YtmpaliocfikifaaDoor
open Go.RowKit
theorem results_row_tmp {P : Program} {fn : Func} {p u : Tmp} {ty : TypeId} (h : fn.results = #[.cell p ty, .tmp u]) (tmps : Array Value) (w : World) (g : Nat) (t : TypeId) (cs : Array Value) (fr : Nat × Nat) (d : TypeDesc)
    (hp : tmps.getD p undef = .pointer (some ⟨g, 0, none⟩)) (hg : w.heap[g]? = some (.cells cs t fr))
    (hu : P.underlying ty = some d) (hd : (match d with | .struct _ | .array _ _ => true | _ => false) = true) (hi : (P.info? ty).map (·.size) = some cs.size) :
    (results fn tmps).run P w = .ok (.tuple #[.agg cs, tmps.getD u undef]) w := by
  rw [results_cell_tmp h, hp]
  simp [asAddr, run_loadVar_row w g t ty cs fr d hg hu hd hi, Result.andThen]
/-- nothing: beside an error -/
abbrev rng0 : Value := .agg #[.int .i64 0, .int .i64 0, .slice none 0 0]
/-- F3 -/
def cmpE (from_ : Int) (l : List (List UInt8)) : Int := if 0 ≤ from_ ∧ from_ ≤ 1099511627776 ∧ l.length ≤ 4096 then (if from_ + (l.length : Int) ≤ 1099511627776 then (if hsB l = true then 0 else 52) else 53) else 1
/-- what a call that makes a range answers: an error, or a range whose list is its own -/
def RgP (w : World) (c b e : Int) (H : List (List UInt8)) (r : Ending) (w' : World) : Prop :=
  Below w.heap.size w w' ∧ if c = 0 then ∃ v, r = .returned (.tuple #[rng b e v, .int .i64 0]) ∧ Own w' w.heap.size v (svs H) else r = .returned (.tuple #[rng0, .int .i64 c])
theorem RgP.bad {w w' : World} {c b e : Int} {H : List (List UInt8)} (hc : c ≠ 0) (hb : Below w.heap.size w w') : RgP w c b e H (.returned (.tuple #[rng0, .int .i64 c])) w' := by
  unfold RgP
  rw [if_neg hc]
  exact ⟨hb, rfl⟩
theorem RgP.ok {w w' : World} {b e : Int} {H : List (List UInt8)} {v : Value} (ho : Own w' w.heap.size v (svs H)) (hb : Below w.heap.size w w') : RgP w 0 b e H (.returned (.tuple #[rng b e v, .int .i64 0])) w' := by
  unfold RgP
  rw [if_pos rfl]
  exact ⟨hb, v, rfl, ho⟩
theorem Keep.toBelow {S : Nat → Prop} {w w' : World} {B : Nat} (h : Keep S w w') (hB : B ≤ w.heap.size) (hS : ∀ k, S k → B ≤ k) : Below B w w' :=
  ⟨h.os, h.tape, h.output, h.size, fun k hk => h.block k (by omega) fun e => by have := hS k e; omega⟩
theorem oneRg (b e : Int) (a : Option Addr) (n c : Nat) : (#[Value.int .i64 b, Value.int .i64 e, Value.slice a n c].all (·.oneCell')) = true := all_oneCell_toArray (cs := [Value.int .i64 b, Value.int .i64 e, Value.slice a n c]) fun v hv => by
  simp only [List.mem_cons, List.not_mem_nil, or_false] at hv
  rcases hv with rfl | rfl | rfl <;> rfl
theorem Own.from {w : World} {b0 B : Nat} {v : Value} {cs : List Value} (h : Own w b0 v cs) (hB : ∀ k, v.ownBlock = some k → B ≤ k) : Own w B v cs := by
  rcases h with h | ⟨g, cap, rfl, h1, h2⟩
  · exact .inl h
  · exact .inr ⟨g, cap, rfl, hB g rfl, h2⟩
/-- what the blocks are like -/
structure Co (w0 : World) (O : Nat → Prop) (q s : Nat) : Prop where
  up : ∀ k, w0.heap.size ≤ k → O k
  nq : ¬ O q
  ns : ¬ O s
  ne : q ≠ s
  tl : ∀ k, O k → 4 ≤ k
  tq : 4 ≤ q
  ts : 4 ≤ s
  tabs : Tabs w0
theorem lh_take {l : List (List UInt8)} {j : Nat} (h : j < l.length) : l.take j ++ [l[j]] = l.take (j + 1) := by rw [List.take_append_getElem]
end Go.Proofs.YtmpaliocfikifaaDoor

namespace Go.Proofs.YtmpaliocfikifaaDoor
open Go.RowKit
theorem sizePl : (Tryd.prog.info? 140).map (·.size) = some 2 := by kernel_rfl
theorem low_i64 (i h P : Nat) (hi : i < 9223372036854775808) (hh : h ≤ 62) (hP : P = 2 ^ h) : bits .and .i64 (i : Int) ((P : Int) - 1) = ((i % P : Nat) : Int) := by
  have hp : 0 < P := by rw [hP]; exact Nat.two_pow_pos h
  have hp2 : P ≤ 4611686018427387904 := by rw [hP]; exact Nat.pow_le_pow_right (n := 2) (by omega) hh
  have h1 : (BitVec.ofInt 64 (i : Int)).toNat = i := by
    rw [BitVec.ofInt_natCast, BitVec.toNat_ofNat]; exact Nat.mod_eq_of_lt (by omega)
  have h2 : (BitVec.ofInt 64 ((P : Int) - 1)).toNat = P - 1 := by
    rw [show (P : Int) - 1 = ((P - 1 : Nat) : Int) by omega, BitVec.ofInt_natCast, BitVec.toNat_ofNat]; exact Nat.mod_eq_of_lt (by omega)
  show IntKind.i64.wrap ((BitVec.ofInt 64 (i : Int) &&& BitVec.ofInt 64 ((P : Int) - 1)).toNat : Int) = _
  have h3 : i % P < P := Nat.mod_lt _ hp
  rw [BitVec.toNat_and, h1, h2, hP, Nat.and_two_pow_sub_one_eq_mod, ← hP]
  exact wrap_small _ (by omega) (by omega)
/-- three cells of two variables -/
def S3 (g q : Nat) (x y z : Value) (w : World) : Prop := w.cell? ⟨g, 0, none⟩ = some x ∧ w.cell? ⟨g, 1, none⟩ = some y ∧ w.cell? ⟨q, 0, none⟩ = some z
set_option maxRecDepth 100000 in
set_option maxHeartbeats 2000000 in
theorem placeOf_any {w : World} {q b h s : Nat} {es : List ((Int × Int) × Value)} {R : Int × Int → List (List UInt8)} (t : Tr w q b h s es R) (hh : h ≤ 8) (l i : Nat) (hi : i < 4611686018427387904) :
    Calls Tryd.prog 93 #[.pointer (some ⟨q, 0, none⟩), .agg #[.int .i64 (l : Int), .int .i64 (i : Int)]] w fun r w' => r = .returned (.tuple #[kv ((l : Int), ((i / 2 ^ h : Nat) : Int)), .int .i64 ((i % 2 ^ h : Nat) : Int)]) ∧ Below w.heap.size w w' := by
  have hh0 : (0 : Int) ≤ (h : Int) := by omega
  have hh1 : (h : Int) ≤ 64 := by omega
  obtain ⟨P, hP⟩ : ∃ P, P = 2 ^ h := ⟨_, rfl⟩
  have hp : 0 < P := by rw [hP]; exact Nat.two_pow_pos h
  have hp2 : P ≤ 256 := by rw [hP]; exact Nat.pow_le_pow_right (n := 2) (by omega) hh
  have s4 := low_i64 i h P (by omega) (by omega) hP
  have s0 : (2 : Int) ^ h = (P : Int) := by rw [hP]; simp
  have s1 : (i : Int) / (P : Int) = ((i / P : Nat) : Int) := by simp
  have s2 : IntKind.i64.wrap (P : Int) = (P : Int) := wrap_small _ (by omega) (by omega)
  have s3 : IntKind.i64.wrap ((P : Int) - 1) = (P : Int) - 1 := wrap_small _ (by omega) (by omega)
  rw [← hP]
  clear hP
  obtain ⟨i1, hi1⟩ : ∃ i1 : Nat, i / P = i1 := ⟨_, rfl⟩
  obtain ⟨i2, hi2⟩ : ∃ i2 : Nat, i % P = i2 := ⟨_, rfl⟩
  rw [hi1] at s1 ⊢
  rw [hi2] at s4 ⊢
  obtain ⟨w0, hw0⟩ : ∃ w0, (w.alloc (.cells #[Value.int .i64 (l : Int), .int .i64 (i : Int)] 131)).alloc (.cells #[Value.int .i64 0, .int .i64 0] 140) = w0 := ⟨_, rfl⟩
  have z1 := size_alloc w (.cells #[Value.int .i64 (l : Int), .int .i64 (i : Int)] 131)
  have r1 := heap_alloc_new w (.cells #[Value.int .i64 (l : Int), .int .i64 (i : Int)] 131)
  have b1 := (Below.refl w.heap.size w).alloc (Nat.le_refl _) (.cells #[Value.int .i64 (l : Int), .int .i64 (i : Int)] 131)
  have b2 := (Below.refl (w.heap.size + 1) (w.alloc (.cells #[Value.int .i64 (l : Int), .int .i64 (i : Int)] 131))).alloc (by omega) (.cells #[Value.int .i64 0, .int .i64 0] 140)
  have r2 := heap_alloc_at (w.alloc (.cells #[Value.int .i64 (l : Int), .int .i64 (i : Int)] 131)) (.cells #[Value.int .i64 0, .int .i64 0] 140) (w.heap.size + 1) z1
  have r1' := (b2.block w.heap.size (by omega)).trans r1
  have b3 := b1.trans (b2.mono (show w.heap.size ≤ w.heap.size + 1 by omega))
  rw [hw0] at r1' r2 b3
  have hq : q < w.heap.size := t.lt q (.inl rfl)
  have S0 : S3 w.heap.size q (.int .i64 (l : Int)) (.int .i64 (i : Int)) (.int .i64 (h : Int)) w0 := ⟨by rw [cell_of_row _ _ _ _ _ _ r1']; rfl, by rw [cell_of_row _ _ _ _ _ _ r1']; rfl, (b3.cell (p := ⟨q, 0, none⟩) hq).trans t.c0⟩
  have d0 : w0.drew.cell? ⟨w.heap.size + 1, 0, none⟩ = some (.int .i64 0) := by rw [show w0.drew.cell? ⟨w.heap.size + 1, 0, none⟩ = w0.cell? ⟨w.heap.size + 1, 0, none⟩ from rfl, cell_of_row _ _ _ _ _ _ r2]; rfl
  have d1 : w0.drew.cell? ⟨w.heap.size + 1, 1, none⟩ = some (.int .i64 0) := by rw [show w0.drew.cell? ⟨w.heap.size + 1, 1, none⟩ = w0.cell? ⟨w.heap.size + 1, 1, none⟩ from rfl, cell_of_row _ _ _ _ _ _ r2]; rfl
  have f0 : w0.drew.frozen? ⟨w.heap.size + 1, 0, none⟩ = false := frozen_of_row w0 _ _ _ _ r2
  have f1 : w0.drew.frozen? ⟨w.heap.size + 1, 1, none⟩ = false := frozen_of_row w0 _ _ _ _ r2
  have d0' : w0.cell? ⟨w.heap.size + 1, 0, none⟩ = some (.int .i64 0) := d0
  have d1' : w0.cell? ⟨w.heap.size + 1, 1, none⟩ = some (.int .i64 0) := d1
  have f0' : w0.frozen? ⟨w.heap.size + 1, 0, none⟩ = false := f0
  have f1' : w0.frozen? ⟨w.heap.size + 1, 1, none⟩ = false := f1
  have R2 := hid r2
  have B3 := hid b3
  obtain ⟨N, hN⟩ : ∃ N, w.heap.size = N := ⟨_, rfl⟩
  rw [hN] at S0 d0 d1 f0 f1 d0' d1' f0' f1' R2 B3 hq
  obtain ⟨w9, hw9⟩ : ∃ w9, (w0.setCell ⟨N + 1, 0, none⟩ (.int .i64 (l : Int))).setCell ⟨N + 1, 1, none⟩ (.int .i64 (i1 : Int)) = w9 := ⟨_, rfl⟩
  have b9 : Below (N + 1) w0 w9 := by
    rw [← hw9]
    exact ((Below.refl (N + 1) w0).setCell (p := ⟨N + 1, 0, none⟩) (Nat.le_refl _) _).setCell (p := ⟨N + 1, 1, none⟩) (Nat.le_refl _) _
  have S9 : S3 N q (.int .i64 (l : Int)) (.int .i64 (i : Int)) (.int .i64 (h : Int)) w9 := ⟨(b9.cell (p := ⟨N, 0, none⟩) (by simp)).trans S0.1, (b9.cell (p := ⟨N, 1, none⟩) (by simp)).trans S0.2.1, (b9.cell (p := ⟨q, 0, none⟩) (by simp; omega)).trans S0.2.2⟩
  have R9 : Hid (w9.heap[N + 1]? = some (.cells #[.int .i64 (l : Int), .int .i64 (i1 : Int)] 140 (0, 0))) := by
    have h1 := heap_setCell_same w0 (N + 1) 0 _ _ (.int .i64 (l : Int)) R2.out
    have h2 := heap_setCell_same _ (N + 1) 1 _ _ (.int .i64 (i1 : Int)) h1
    rw [hw9] at h2
    exact h2
  have B9 : Hid (Below N w w9) := hid (B3.out.trans (b9.mono (by omega)))
  clear r1' r1 r2 b1 b2 b3 z1 hi1 hi2 hp hp2 t
  go_enter Tryd.func93, Tryd.ntmps93
  go_wp2
  clear hw0
  go_region_held3 (fun w' => w'.cell? ⟨N, 0, none⟩ = some (.int .i64 (l : Int)) ∧ w'.cell? ⟨N, 1, none⟩ = some (.int .i64 (i : Int)) ∧ w'.cell? ⟨q, 0, none⟩ = some (.int .i64 (h : Int))) (first | exact S0 | exact S9 | (rw [hw9]; exact S9)) (fail)
  all_goals (go_wp2; refine bodyPost_ret (results_row_tmp rfl _ _ (N + 1) 140 _ (0, 0) _ rfl R9.out Tryd.underlying140 rfl sizePl) rfl ?_; exact ⟨rfl, by rw [hN]; exact B9.out.drew⟩)
end Go.Proofs.YtmpaliocfikifaaDoor
