import Derived.Test.YtfddkmkibfmmgaaDoorCFN6
import Derived.Test.YtfddkmkibfmmgaaDoorCO15
import Derived.Test.YtfddkmkibfmmgaaDoorCO28
import Derived.Deep.RegionHeld3
import Derived.Test.YtfddkmkibfmmgaaDoorCTL4
import Derived.Laws.ResultCell
namespace Go.Proofs.YtfddkmkibfmmgaaDoor
open Go.RowKit
namespace Cut
open Tree
theorem cut02 : cut 0 2 = [(0, 2)] := by decide
theorem cmp2 (a b : T) : cmp [a, b] 0 = [nd a b] := by
  show List.map _ (cut 0 2) = _
  rw [cut02]
  show [root [a, b]] = _
  rw [root_cut (by simp)]
  rfl
/-- hashes of hashes are such -/
theorem cmp_hs {L : List T} {a : Nat} (h : Hs L) : Hs (cmp L a) := fun x hx => by
  obtain ⟨q, _, rfl⟩ := List.mem_map.1 hx
  exact root_hash ((h.drop _).take _)
end Cut
theorem hsB_of {l : List (List UInt8)} (h : Tree.Hs l) : hsB l = true := by
  unfold hsB
  rw [List.all_eq_true]
  intro x hx
  simpa using h x hx
/-- an edge of these leaves -/
def EdL (w : World) (q : Nat) (L : List (List UInt8)) (F : Nat → Prop) : Prop := Ed w q (Cut.cmp L 0) L.length F
theorem EdL.nil {w : World} {q : Nat} {F : Nat → Prop} (h : Ed w q [] 0 F) : EdL w q [] F := by
  unfold EdL; rw [Cut.cmp_nil]; exact h
theorem fAddL {w : World} {q : Nat} {L : List (List UInt8)} {F : Nat → Prop} (h : EdL w q L F) (x : List UInt8) (hx : x.length = 32) (hn : L.length < 1099511627776) (T : Tabs w) : Calls Tryd.prog 21 #[.pointer (some ⟨q, 0, none⟩), sv x] w fun r w' => r = .returned (.int .i64 0) ∧
      ∃ F', EdL w' q (L ++ [x]) F' ∧ Mov F w w' F' := by
  have := fAdd_any h x hx hn T
  have e := Cut.cmp_snoc (L := L) (a := 0) (x := x) (by omega)
  rw [Nat.zero_add] at e
  rw [e] at this
  refine this.mono ?_
  rintro r w' ⟨h1, F', h2, h3⟩
  refine ⟨h1, F', ?_, h3⟩
  unfold EdL
  rw [List.length_append]
  exact h2
theorem Mov.below {F F' : Nat → Prop} {w w' : World} {B : Nat} (h : Mov F w w' F') (hB : B ≤ w.heap.size) (hF : ∀ k, F k → B ≤ k) : Below B w w' ∧ ∀ k, F' k → B ≤ k := by
  refine ⟨⟨h.keep.os, h.keep.tape, h.keep.output, h.keep.size, fun k hk => h.keep.block k (by omega) fun e => ?_⟩, fun k hk => ?_⟩
  · have := hF k e; omega
  · rcases h.new k hk with e | e
    · exact hF k e
    · omega
theorem fRootL {w : World} {q : Nat} {L : List (List UInt8)} {F : Nat → Prop} (h : EdL w q L F) (T : Tabs w) {R : List UInt8} (hR : Hid (Tree.root L = R)) : Calls Tryd.prog 20 #[.pointer (some ⟨q, 0, none⟩)] w fun r w' => r = .returned (sv R) ∧ Below w.heap.size w w' := by
  have := fRoot_any h T
  rwa [Cut.cmp_root L h.most, hR.out] at this
end Go.Proofs.YtfddkmkibfmmgaaDoor

namespace Go.Proofs.YtfddkmkibfmmgaaDoor
open Go.RowKit
theorem Mp.keys {w : World} {b : Nat} {es : List ((Int × Int) × Value)} (h : Mp w b es) : es.Pairwise (fun x y => x.1 ≠ y.1) := by
  obtain ⟨_, _, _, _, _, _, h, _⟩ := h
  exact h
/-- a tree's blocks -/
def Fb (q b : Nat) (es : List ((Int × Int) × Value)) (k : Nat) : Prop := k = q ∨ k = b ∨ ∃ p v, (p, v) ∈ es ∧ v.ownBlock = some k
/-- a tree in memory: its rows are R's -/
structure Tr (w : World) (q b h s : Nat) (es : List ((Int × Int) × Value)) (R : Int × Int → List (List UInt8)) : Prop where
  row : w.heap[q]? = some (.cells #[.int .i64 (h : Int), .int .i64 (s : Int), .map (some b)] 73 (0, 0))
  mp : Mp w b es
  qb : q ≠ b
  el : ∀ p v, (p, v) ∈ es → Own w 0 v (svs (R p)) ∧ ∀ k, v.ownBlock = some k → k ≠ q ∧ k ≠ b
  no : ∀ p, ¬ has es p → R p = []
  apart : ∀ p v p' v' k, (p, v) ∈ es → (p', v') ∈ es → p ≠ p' → v.ownBlock = some k → v'.ownBlock ≠ some k
theorem Own.ltS {w : World} {base : Nat} {v : Value} {cs : List Value} (h : Own w base v cs) : ∀ k, v.ownBlock = some k → k < w.heap.size := by
  rcases h with ⟨rfl, _⟩ | ⟨g, cap, rfl, _, _, _, _, _, h6⟩
  · intro k hk; cases hk
  · intro k hk; cases hk; exact h6
theorem Tr.lt {w : World} {q b h s : Nat} {es : List ((Int × Int) × Value)} {R : Int × Int → List (List UInt8)} (t : Tr w q b h s es R) : ∀ k, Fb q b es k → k < w.heap.size := fun k hk => by
  rcases hk with rfl | rfl | ⟨p, v, hm, hk⟩
  · exact (Array.getElem?_eq_some_iff.1 t.row).1
  · exact t.mp.lt
  · exact (t.el p v hm).1.ltS k hk
theorem Tr.keep {w w' : World} {q b h s : Nat} {es : List ((Int × Int) × Value)} {R : Int × Int → List (List UInt8)} {S : Nat → Prop} (t : Tr w q b h s es R) (hk : Keep S w w') (hd : ∀ k, Fb q b es k → ¬ S k) : Tr w' q b h s es R := by
  have e : ∀ k, Fb q b es k → w'.heap[k]? = w.heap[k]? := fun k hf => hk.block k (t.lt k hf) (hd k hf)
  refine ⟨(e q (.inl rfl)).trans t.row, t.mp.heap (e b (.inr (.inl rfl))), t.qb, fun p v hm => ⟨?_, (t.el p v hm).2⟩, t.no, t.apart⟩
  exact (t.el p v hm).1.kept hk.size fun g hg => e g (.inr (.inr ⟨p, v, hm, hg⟩))
theorem Tr.below {w w' : World} {q b h s : Nat} {es : List ((Int × Int) × Value)} {R : Int × Int → List (List UInt8)} (t : Tr w q b h s es R) (hb : Below w.heap.size w w') : Tr w' q b h s es R :=
  t.keep (S := fun k => w.heap.size ≤ k) ⟨hb.os, hb.tape, hb.output, hb.size, fun k hk _ => hb.block k hk⟩ (fun k hk e => by have := t.lt k hk; omega)
theorem Tr.c0 {w : World} {q b h s : Nat} {es : List ((Int × Int) × Value)} {R : Int × Int → List (List UInt8)} (t : Tr w q b h s es R) : w.cell? ⟨q, 0, none⟩ = some (.int .i64 (h : Int)) := by rw [cell_of_row _ _ _ _ _ _ t.row]; rfl
theorem Tr.c1 {w : World} {q b h s : Nat} {es : List ((Int × Int) × Value)} {R : Int × Int → List (List UInt8)} (t : Tr w q b h s es R) : w.cell? ⟨q, 1, none⟩ = some (.int .i64 (s : Int)) := by rw [cell_of_row _ _ _ _ _ _ t.row]; rfl
theorem Tr.c2 {w : World} {q b h s : Nat} {es : List ((Int × Int) × Value)} {R : Int × Int → List (List UInt8)} (t : Tr w q b h s es R) : w.cell? ⟨q, 2, none⟩ = some (.map (some b)) := by rw [cell_of_row _ _ _ _ _ _ t.row]; rfl
theorem Tr.f1 {w : World} {q b h s : Nat} {es : List ((Int × Int) × Value)} {R : Int × Int → List (List UInt8)} (t : Tr w q b h s es R) : w.frozen? ⟨q, 1, none⟩ = false := frozen_of_row _ _ _ _ _ t.row
theorem Tr.at {w : World} {q b h s : Nat} {es : List ((Int × Int) × Value)} {R : Int × Int → List (List UInt8)} (t : Tr w q b h s es R) (p : Int × Int) : Own w 0 (look es p) (svs (R p)) ∧ ∀ k, (look es p).ownBlock = some k → Fb q b es k ∧ k ≠ q ∧ k ≠ b := by
  by_cases hp : has es p
  · obtain ⟨v, hv⟩ := hp
    rw [look_mem t.mp.keys hv]
    exact ⟨(t.el p v hv).1, fun k hk => ⟨.inr (.inr ⟨p, v, hv, hk⟩), (t.el p v hv).2 k hk⟩⟩
  · rw [look_none hp, t.no p hp]
    exact ⟨Own.nil _ _, fun k hk => (by cases hk)⟩
theorem tOrNone_any (q : Nat) (w : World) : Calls Tryd.prog 33 #[.pointer (some ⟨q, 0, none⟩)] w fun r w' => r = .returned (.pointer (some ⟨q, 0, none⟩)) ∧ w' = w := by
  go_enter Tryd.func33, Tryd.ntmps33
  go_wp2
  go_ret
  exact ⟨rfl, rfl⟩
theorem tSize_any {w : World} {q b h s : Nat} {es : List ((Int × Int) × Value)} {R : Int × Int → List (List UInt8)} (t : Tr w q b h s es R) : Calls Tryd.prog 10 #[.pointer (some ⟨q, 0, none⟩)] w fun r w' => r = .returned (.int .i64 (s : Int)) ∧ w' = w := by
  have h0 := t.c1
  go_enter Tryd.func10, Tryd.ntmps10
  go_wp2_with (go_at_call 33; refine (tOrNone_any q w).mono ?_; rintro e w' ⟨rfl, rfl⟩)
  go_ret
  exact ⟨rfl, rfl⟩
theorem tHeight_any {w : World} {q b h s : Nat} {es : List ((Int × Int) × Value)} {R : Int × Int → List (List UInt8)} (t : Tr w q b h s es R) : Calls Tryd.prog 9 #[.pointer (some ⟨q, 0, none⟩)] w fun r w' => r = .returned (.int .i64 (h : Int)) ∧ w' = w := by
  have h0 := t.c0
  go_enter Tryd.func9, Tryd.ntmps9
  go_wp2_with (go_at_call 33; refine (tOrNone_any q w).mono ?_; rintro e w' ⟨rfl, rfl⟩)
  go_ret
  exact ⟨rfl, rfl⟩
end Go.Proofs.YtfddkmkibfmmgaaDoor

namespace Go.Proofs.YtfddkmkibfmmgaaDoor
open Go.RowKit
theorem results_row_tmp {P : Program} {fn : Func} {p u : Tmp} {ty : TypeId} (h : fn.results = #[.cell p ty, .tmp u]) (tmps : Array Value) (w : World) (g : Nat) (t : TypeId) (cs : Array Value) (fr : Nat × Nat) (d : TypeDesc)
    (hp : tmps.getD p undef = .pointer (some ⟨g, 0, none⟩)) (hg : w.heap[g]? = some (.cells cs t fr))
    (hu : P.underlying ty = some d) (hd : (match d with | .struct _ | .array _ _ => true | _ => false) = true) (hi : (P.info? ty).map (·.size) = some cs.size) :
    (results fn tmps).run P w = .ok (.tuple #[.agg cs, tmps.getD u undef]) w := by
  rw [results_cell_tmp h, hp]
  simp [asAddr, run_loadVar_row w g t ty cs fr d hg hu hd hi, Result.andThen]
/-- nothing: beside an error -/
abbrev rng0 : Value := .agg #[.int .i64 0, .int .i64 0, .slice none 0 0]
/-- F3 -/
def cmpE (from_ : Int) (l : List (List UInt8)) : Int := if 0 ≤ from_ ∧ from_ ≤ 1099511627776 ∧ l.length ≤ 4096 then (if from_ + (l.length : Int) ≤ 1099511627776 then (if hsB l = true then 0 else 52) else 53) else 1
/-- what a call that makes a range answers: an error, or a range whose list is its own -/
def RgP (w : World) (c b e : Int) (H : List (List UInt8)) (r : Ending) (w' : World) : Prop :=
  Below w.heap.size w w' ∧ if c = 0 then ∃ v, r = .returned (.tuple #[rng b e v, .int .i64 0]) ∧ Own w' w.heap.size v (svs H) else r = .returned (.tuple #[rng0, .int .i64 c])
theorem RgP.bad {w w' : World} {c b e : Int} {H : List (List UInt8)} (hc : c ≠ 0) (hb : Below w.heap.size w w') : RgP w c b e H (.returned (.tuple #[rng0, .int .i64 c])) w' := by
  unfold RgP
  rw [if_neg hc]
  exact ⟨hb, rfl⟩
theorem RgP.ok {w w' : World} {b e : Int} {H : List (List UInt8)} {v : Value} (ho : Own w' w.heap.size v (svs H)) (hb : Below w.heap.size w w') : RgP w 0 b e H (.returned (.tuple #[rng b e v, .int .i64 0])) w' := by
  unfold RgP
  rw [if_pos rfl]
  exact ⟨hb, v, rfl, ho⟩
theorem Keep.toBelow {S : Nat → Prop} {w w' : World} {B : Nat} (h : Keep S w w') (hB : B ≤ w.heap.size) (hS : ∀ k, S k → B ≤ k) : Below B w w' :=
  ⟨h.os, h.tape, h.output, h.size, fun k hk => h.block k (by omega) fun e => by have := hS k e; omega⟩
theorem oneRg (b e : Int) (a : Option Addr) (n c : Nat) : (#[Value.int .i64 b, Value.int .i64 e, Value.slice a n c].all (·.oneCell')) = true := all_oneCell_toArray (cs := [Value.int .i64 b, Value.int .i64 e, Value.slice a n c]) fun v hv => by
  simp only [List.mem_cons, List.not_mem_nil, or_false] at hv
  rcases hv with rfl | rfl | rfl <;> rfl
theorem Own.from {w : World} {b0 B : Nat} {v : Value} {cs : List Value} (h : Own w b0 v cs) (hB : ∀ k, v.ownBlock = some k → B ≤ k) : Own w B v cs := by
  rcases h with h | ⟨g, cap, rfl, h1, h2⟩
  · exact .inl h
  · exact .inr ⟨g, cap, rfl, hB g rfl, h2⟩
/-- a list and a span, while the one grows with the other -/
structure Cj (w0 w' : World) (O : Nat → Prop) (q s a e : Nat) (v : Value) (H : List (List UInt8)) : Prop where
  nl : Nl w' q #[v] 86 v H
  sp : Sp w' s a e
  own : ∀ k, v.ownBlock = some k → O k
  keep : Keep (fun k => k = q ∨ k = s ∨ O k) w0 w'
/-- what the blocks are like -/
structure Co (w0 : World) (O : Nat → Prop) (q s : Nat) : Prop where
  up : ∀ k, w0.heap.size ≤ k → O k
  nq : ¬ O q
  ns : ¬ O s
  ne : q ≠ s
  tl : ∀ k, O k → 4 ≤ k
  tq : 4 ≤ q
  ts : 4 ≤ s
  tabs : Tabs w0
theorem Cj.tabs {w0 w' : World} {O : Nat → Prop} {q s a e : Nat} {v : Value} {H : List (List UInt8)} (h : Cj w0 w' O q s a e v H) (c : Co w0 O q s) : Tabs w' := by
  have ht := c.tabs.lt
  have h1 := c.tq
  have h2 := c.ts
  exact c.tabs.below (B := 4) (h.keep.toBelow ht fun k hk => by
    rcases hk with e | e | e
    · omega
    · omega
    · exact c.tl k e) (Nat.le_refl _)
theorem Cj.taken {w0 w1 w2 : World} {O : Nat → Prop} {q s a e e' : Nat} {v v' : Value} {H H' : List (List UInt8)} (h : Cj w0 w1 O q s a e v H) (c : Co w0 O q s) (hn : Nl w2 q #[v'] 86 v' H') (hk : Keep (Fp q v) w1 w2) (hv : ∀ j, v'.ownBlock = some j → v.ownBlock = some j ∨ w1.heap.size ≤ j) :
    Sp w2 s a e ∧ Cj w0 (w2.setCell ⟨s, 1, none⟩ (.int .i64 (e' : Int))) O q s a e' v' H' := by
  have hsv : ∀ k, Fp q v k → k ≠ s := fun k hk e => by
    rcases hk with hk | hk
    · exact c.ne (hk.symm.trans e)
    · exact c.ns (e ▸ h.own k hk)
  have hs2 : Sp w2 s a e := (hk.block s (lt_of_heap h.sp) fun e => hsv s e rfl).trans h.sp
  have hO : ∀ k, v'.ownBlock = some k → O k := fun k hk' => by
    rcases hv k hk' with e | e
    · exact h.own k e
    · exact c.up k (Nat.le_trans h.keep.size e)
  have kset := Keep.ofSet (S := fun k => k = s) w2 s 1 (.int .i64 (e' : Int)) rfl
  refine ⟨hs2, ⟨hn.keep kset fun k hk' e => ?_, hs2.set1 e', hO, ?_⟩⟩
  · rcases hk' with hk' | hk'
    · exact c.ne (hk'.symm.trans e)
    · exact c.ns (e ▸ hO k hk')
  · refine (h.keep.trans hk fun k hk0 e => ?_).trans kset fun k _ e => .inr (.inl e)
    rcases e with e | e
    · exact .inl e
    · exact .inr (.inr (h.own k e))
theorem lh_take {l : List (List UInt8)} {j : Nat} (h : j < l.length) : l.take j ++ [l[j]] = l.take (j + 1) := by rw [List.take_append_getElem]
end Go.Proofs.YtfddkmkibfmmgaaDoor

namespace Go.Proofs.YtfddkmkibfmmgaaDoor
open Go.RowKit
theorem sizePl : (Tryd.prog.info? 80).map (·.size) = some 2 := by kernel_rfl
theorem low_i64 (i h P : Nat) (hi : i < 9223372036854775808) (hh : h ≤ 62) (hP : P = 2 ^ h) : bits .and .i64 (i : Int) ((P : Int) - 1) = ((i % P : Nat) : Int) := by
  have hp : 0 < P := by rw [hP]; exact Nat.two_pow_pos h
  have hp2 : P ≤ 4611686018427387904 := by rw [hP]; exact Nat.pow_le_pow_right (n := 2) (by omega) hh
  have h1 : (BitVec.ofInt 64 (i : Int)).toNat = i := by
    rw [BitVec.ofInt_natCast, BitVec.toNat_ofNat]; exact Nat.mod_eq_of_lt (by omega)
  have h2 : (BitVec.ofInt 64 ((P : Int) - 1)).toNat = P - 1 := by
    rw [show (P : Int) - 1 = ((P - 1 : Nat) : Int) by omega, BitVec.ofInt_natCast, BitVec.toNat_ofNat]; exact Nat.mod_eq_of_lt (by omega)
  show IntKind.i64.wrap ((BitVec.ofInt 64 (i : Int) &&& BitVec.ofInt 64 ((P : Int) - 1)).toNat : Int) = _
  have h3 : i % P < P := Nat.mod_lt _ hp
  rw [BitVec.toNat_and, h1, h2, hP, Nat.and_two_pow_sub_one_eq_mod, ← hP]
  exact wrap_small _ (by omega) (by omega)
/-- three cells of two variables -/
def S3 (g q : Nat) (x y z : Value) (w : World) : Prop := w.cell? ⟨g, 0, none⟩ = some x ∧ w.cell? ⟨g, 1, none⟩ = some y ∧ w.cell? ⟨q, 0, none⟩ = some z
set_option maxRecDepth 100000 in
set_option maxHeartbeats 2000000 in
theorem placeOf_any {w : World} {q b h s : Nat} {es : List ((Int × Int) × Value)} {R : Int × Int → List (List UInt8)} (t : Tr w q b h s es R) (hh : h ≤ 8) (l i : Nat) (hi : i < 4611686018427387904) :
    Calls Tryd.prog 59 #[.pointer (some ⟨q, 0, none⟩), .agg #[.int .i64 (l : Int), .int .i64 (i : Int)]] w fun r w' => r = .returned (.tuple #[kv ((l : Int), ((i / 2 ^ h : Nat) : Int)), .int .i64 ((i % 2 ^ h : Nat) : Int)]) ∧ Below w.heap.size w w' := by
  have hh0 : (0 : Int) ≤ (h : Int) := by omega
  have hh1 : (h : Int) ≤ 64 := by omega
  obtain ⟨P, hP⟩ : ∃ P, P = 2 ^ h := ⟨_, rfl⟩
  have hp : 0 < P := by rw [hP]; exact Nat.two_pow_pos h
  have hp2 : P ≤ 256 := by rw [hP]; exact Nat.pow_le_pow_right (n := 2) (by omega) hh
  have s4 := low_i64 i h P (by omega) (by omega) hP
  have s0 : (2 : Int) ^ h = (P : Int) := by rw [hP]; simp
  have s1 : (i : Int) / (P : Int) = ((i / P : Nat) : Int) := by simp
  have s2 : IntKind.i64.wrap (P : Int) = (P : Int) := wrap_small _ (by omega) (by omega)
  have s3 : IntKind.i64.wrap ((P : Int) - 1) = (P : Int) - 1 := wrap_small _ (by omega) (by omega)
  rw [← hP]
  clear hP
  obtain ⟨i1, hi1⟩ : ∃ i1 : Nat, i / P = i1 := ⟨_, rfl⟩
  obtain ⟨i2, hi2⟩ : ∃ i2 : Nat, i % P = i2 := ⟨_, rfl⟩
  rw [hi1] at s1 ⊢
  rw [hi2] at s4 ⊢
  obtain ⟨w0, hw0⟩ : ∃ w0, (w.alloc (.cells #[Value.int .i64 (l : Int), .int .i64 (i : Int)] 31)).alloc (.cells #[Value.int .i64 0, .int .i64 0] 80) = w0 := ⟨_, rfl⟩
  have z1 := size_alloc w (.cells #[Value.int .i64 (l : Int), .int .i64 (i : Int)] 31)
  have r1 := heap_alloc_new w (.cells #[Value.int .i64 (l : Int), .int .i64 (i : Int)] 31)
  have b1 := (Below.refl w.heap.size w).alloc (Nat.le_refl _) (.cells #[Value.int .i64 (l : Int), .int .i64 (i : Int)] 31)
  have b2 := (Below.refl (w.heap.size + 1) (w.alloc (.cells #[Value.int .i64 (l : Int), .int .i64 (i : Int)] 31))).alloc (by omega) (.cells #[Value.int .i64 0, .int .i64 0] 80)
  have r2 := heap_alloc_at (w.alloc (.cells #[Value.int .i64 (l : Int), .int .i64 (i : Int)] 31)) (.cells #[Value.int .i64 0, .int .i64 0] 80) (w.heap.size + 1) z1
  have r1' := (b2.block w.heap.size (by omega)).trans r1
  have b3 := b1.trans (b2.mono (show w.heap.size ≤ w.heap.size + 1 by omega))
  rw [hw0] at r1' r2 b3
  have hq : q < w.heap.size := t.lt q (.inl rfl)
  have S0 : S3 w.heap.size q (.int .i64 (l : Int)) (.int .i64 (i : Int)) (.int .i64 (h : Int)) w0 := ⟨by rw [cell_of_row _ _ _ _ _ _ r1']; rfl, by rw [cell_of_row _ _ _ _ _ _ r1']; rfl, (b3.cell (p := ⟨q, 0, none⟩) hq).trans t.c0⟩
  have d0 : w0.drew.cell? ⟨w.heap.size + 1, 0, none⟩ = some (.int .i64 0) := by rw [show w0.drew.cell? ⟨w.heap.size + 1, 0, none⟩ = w0.cell? ⟨w.heap.size + 1, 0, none⟩ from rfl, cell_of_row _ _ _ _ _ _ r2]; rfl
  have d1 : w0.drew.cell? ⟨w.heap.size + 1, 1, none⟩ = some (.int .i64 0) := by rw [show w0.drew.cell? ⟨w.heap.size + 1, 1, none⟩ = w0.cell? ⟨w.heap.size + 1, 1, none⟩ from rfl, cell_of_row _ _ _ _ _ _ r2]; rfl
  have f0 : w0.drew.frozen? ⟨w.heap.size + 1, 0, none⟩ = false := frozen_of_row w0 _ _ _ _ r2
  have f1 : w0.drew.frozen? ⟨w.heap.size + 1, 1, none⟩ = false := frozen_of_row w0 _ _ _ _ r2
  have d0' : w0.cell? ⟨w.heap.size + 1, 0, none⟩ = some (.int .i64 0) := d0
  have d1' : w0.cell? ⟨w.heap.size + 1, 1, none⟩ = some (.int .i64 0) := d1
  have f0' : w0.frozen? ⟨w.heap.size + 1, 0, none⟩ = false := f0
  have f1' : w0.frozen? ⟨w.heap.size + 1, 1, none⟩ = false := f1
  have R2 := hid r2
  have B3 := hid b3
  obtain ⟨N, hN⟩ : ∃ N, w.heap.size = N := ⟨_, rfl⟩
  rw [hN] at S0 d0 d1 f0 f1 d0' d1' f0' f1' R2 B3 hq
  obtain ⟨w9, hw9⟩ : ∃ w9, (w0.setCell ⟨N + 1, 0, none⟩ (.int .i64 (l : Int))).setCell ⟨N + 1, 1, none⟩ (.int .i64 (i1 : Int)) = w9 := ⟨_, rfl⟩
  have b9 : Below (N + 1) w0 w9 := by
    rw [← hw9]
    exact ((Below.refl (N + 1) w0).setCell (p := ⟨N + 1, 0, none⟩) (Nat.le_refl _) _).setCell (p := ⟨N + 1, 1, none⟩) (Nat.le_refl _) _
  have S9 : S3 N q (.int .i64 (l : Int)) (.int .i64 (i : Int)) (.int .i64 (h : Int)) w9 := ⟨(b9.cell (p := ⟨N, 0, none⟩) (by simp)).trans S0.1, (b9.cell (p := ⟨N, 1, none⟩) (by simp)).trans S0.2.1, (b9.cell (p := ⟨q, 0, none⟩) (by simp; omega)).trans S0.2.2⟩
  have R9 : Hid (w9.heap[N + 1]? = some (.cells #[.int .i64 (l : Int), .int .i64 (i1 : Int)] 80 (0, 0))) := by
    have h1 := heap_setCell_same w0 (N + 1) 0 _ _ (.int .i64 (l : Int)) R2.out
    have h2 := heap_setCell_same _ (N + 1) 1 _ _ (.int .i64 (i1 : Int)) h1
    rw [hw9] at h2
    exact h2
  have B9 : Hid (Below N w w9) := hid (B3.out.trans (b9.mono (by omega)))
  clear r1' r1 r2 b1 b2 b3 z1 hi1 hi2 hp hp2 t
  go_enter Tryd.func59, Tryd.ntmps59
  go_wp2
  clear hw0
  go_region_held3 (fun w' => w'.cell? ⟨N, 0, none⟩ = some (.int .i64 (l : Int)) ∧ w'.cell? ⟨N, 1, none⟩ = some (.int .i64 (i : Int)) ∧ w'.cell? ⟨q, 0, none⟩ = some (.int .i64 (h : Int))) (first | exact S0 | exact S9 | (rw [hw9]; exact S9)) (fail)
  all_goals (go_wp2; refine bodyPost_ret (results_row_tmp rfl _ _ (N + 1) 80 _ (0, 0) _ rfl R9.out Tryd.underlying80 rfl sizePl) rfl ?_; exact ⟨rfl, by rw [hN]; exact B9.out.drew⟩)
end Go.Proofs.YtfddkmkibfmmgaaDoor

namespace Go.Proofs.YtfddkmkibfmmgaaDoor
open Go.RowKit
set_option maxRecDepth 100000 in
set_option maxHeartbeats 2000000 in
/-- the hash of a subtree that stands in a row -/
theorem thash_any {w : World} {q b h s : Nat} {es : List ((Int × Int) × Value)} {R : Int × Int → List (List UInt8)} (t : Tr w q b h s es R) (hh : h ≤ 8) (l i : Nat) (hl : l < 4611686018427387904) (hi : i < 4611686018427387904) {x : List UInt8} (hx : (R ((l : Int), ((i / 2 ^ h : Nat) : Int)))[i % 2 ^ h]? = some x) :
    Calls Tryd.prog 35 #[.pointer (some ⟨q, 0, none⟩), .agg #[.int .i64 (l : Int), .int .i64 (i : Int)]] w fun r w' => r = .returned (sv x) ∧ Below w.heap.size w w' := by
  obtain ⟨w1, hw1⟩ : ∃ w1, w.alloc (.cells #[Value.int .i64 (l : Int), .int .i64 (i : Int)] 31) = w1 := ⟨_, rfl⟩
  have b1 := (Below.refl w.heap.size w).alloc (Nat.le_refl _) (.cells #[Value.int .i64 (l : Int), .int .i64 (i : Int)] 31)
  have r1 := heap_alloc_new w (.cells #[Value.int .i64 (l : Int), .int .i64 (i : Int)] 31)
  rw [hw1] at b1 r1
  have c0 : w1.cell? ⟨w.heap.size, 0, none⟩ = some (.int .i64 (l : Int)) := by rw [cell_of_row _ _ _ _ _ _ r1]; rfl
  have c1 : w1.cell? ⟨w.heap.size, 1, none⟩ = some (.int .i64 (i : Int)) := by rw [cell_of_row _ _ _ _ _ _ r1]; rfl
  have T1 := t.below b1
  have P1 := placeOf_any T1 hh l i hi
  unfold kv at P1
  dsimp only at P1
  have hdv : i / 2 ^ h ≤ i := Nat.div_le_self _ _
  generalize i / 2 ^ h = i1 at *
  generalize i % 2 ^ h = i2 at *
  have T1 := hid T1
  have B1 := hid b1
  clear r1 b1 t
  go_enter Tryd.func35, Tryd.ntmps35
  go_wp2_with (go_at_call 59; fail)
  refine P1.mono ?_
  rintro e w2 ⟨rfl, hw2⟩
  have b3 := (Below.refl w2.heap.size w2).alloc (Nat.le_refl _) (.cells #[Value.int .i64 (l : Int), .int .i64 (i1 : Int)] 80)
  have r3 := heap_alloc_new w2 (.cells #[Value.int .i64 (l : Int), .int .i64 (i1 : Int)] 80)
  obtain ⟨w3, hw3⟩ : ∃ w3, w2.alloc (.cells #[Value.int .i64 (l : Int), .int .i64 (i1 : Int)] 80) = w3 := ⟨_, rfl⟩
  rw [hw3] at b3 r3
  have B3 := hid (B1.out.trans ((hw2.trans (b3.mono hw2.size)).mono B1.out.size))
  have T3 := T1.out.below (hw2.trans (b3.mono hw2.size))
  obtain ⟨o3, _⟩ := T3.at ((l : Int), (i1 : Int))
  have hlk := (T3.mp.heap (w' := w3.drew) rfl).lookup (p := ((l : Int), (i1 : Int))) ⟨⟨by simp only; omega, by simp only; omega⟩, by simp only; omega, by simp only; omega⟩
  obtain ⟨a, cap, hv, hA, hln, hcp⟩ := o3.at
  obtain ⟨y, rfl, _, hc⟩ := hA i2 x hx
  have hn : i2 < (R ((l : Int), (i1 : Int))).length := (List.getElem?_eq_some_iff.1 hx).1
  obtain ⟨n, hnn⟩ : ∃ n, (R ((l : Int), (i1 : Int))).length = n := ⟨_, rfl⟩
  rw [hnn] at hn hv
  rw [hv] at hlk
  have hlk2 : (Instr.lookup 71 (.map (some b)) (.agg #[.int .i64 (l : Int), .int .i64 (i1 : Int)]) false).run Tryd.prog w3.drew = .ok (.slice (some y) n cap) w3.drew := hlk
  have q2 := T3.c2
  have c3 : w3.cell? ⟨w2.heap.size, 0, none⟩ = some (.int .i64 (l : Int)) := by rw [cell_of_row _ _ _ _ _ _ r3]; rfl
  have c4 : w3.cell? ⟨w2.heap.size, 1, none⟩ = some (.int .i64 (i1 : Int)) := by rw [cell_of_row _ _ _ _ _ _ r3]; rfl
  have k0 : (0 : Int) ≤ (i2 : Int) := by omega
  have k1 : (i2 : Int) < (n : Int) := by omega
  have S0 : w3.cell? ⟨q, 2, none⟩ = some (.map (some b)) ∧ w3.cell? ⟨w2.heap.size, 0, none⟩ = some (.int .i64 (l : Int)) ∧ w3.cell? ⟨w2.heap.size, 1, none⟩ = some (.int .i64 (i1 : Int)) ∧ w3.cell? (y.add i2) = some (sv x) := ⟨q2, c3, c4, hc⟩
  clear T3 o3 hA hx hv hlk r3 b3 hnn hw2
  go_wp2
  go_region_held3 (fun w' => w'.cell? ⟨q, 2, none⟩ = some (.map (some b)) ∧ w'.cell? ⟨w2.heap.size, 0, none⟩ = some (.int .i64 (l : Int)) ∧ w'.cell? ⟨w2.heap.size, 1, none⟩ = some (.int .i64 (i1 : Int)) ∧ w'.cell? (y.add i2) = some (sv x)) (exact S0) (fail)
  go_wp2
  go_ret
  exact ⟨rfl, B3.out.drew⟩
end Go.Proofs.YtfddkmkibfmmgaaDoor
