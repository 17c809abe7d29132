import Derived.Test.YtnnohacciikofaaDoorCFN6
import Derived.Test.YtnnohacciikofaaDoorCFR6
import Derived.Test.YtnnohacciikofaaDoorCO20
import Derived.Laws.ResultCell
namespace Go.Proofs.YtnnohacciikofaaDoor
open Go.RowKit
namespace Cut
open Tree
theorem cut02 : cut 0 2 = [(0, 2)] := by decide
theorem cmp2 (a b : T) : cmp [a, b] 0 = [nd a b] := by
  show List.map _ (cut 0 2) = _
  rw [cut02]
  show [root [a, b]] = _
  rw [root_cut (by simp)]
  rfl
/-- hashes of hashes are such -/
theorem cmp_hs {L : List T} {a : Nat} (h : Hs L) : Hs (cmp L a) := fun x hx => by
  obtain ⟨q, _, rfl⟩ := List.mem_map.1 hx
  exact root_hash ((h.drop _).take _)
end Cut
theorem hsB_of {l : List (List UInt8)} (h : Tree.Hs l) : hsB l = true := by
  unfold hsB
  rw [List.all_eq_true]
  intro x hx
  simpa using h x hx
/-- an edge of these leaves -/
def EdL (w : World) (q : Nat) (L : List (List UInt8)) (F : Nat → Prop) : Prop := Ed w q (Cut.cmp L 0) L.length F
theorem EdL.nil {w : World} {q : Nat} {F : Nat → Prop} (h : Ed w q [] 0 F) : EdL w q [] F := by
  unfold EdL; rw [Cut.cmp_nil]; exact h
theorem fAddL {w : World} {q : Nat} {L : List (List UInt8)} {F : Nat → Prop} (h : EdL w q L F) (x : List UInt8) (hx : x.length = 32) (hn : L.length < 1099511627776) (T : Tabs w) : Calls Tryd.prog 12 #[.pointer (some ⟨q, 0, none⟩), sv x] w fun r w' => r = .returned (.int .i64 0) ∧
      ∃ F', EdL w' q (L ++ [x]) F' ∧ Mov F w w' F' := by
  have := fAdd_any h x hx hn T
  have e := Cut.cmp_snoc (L := L) (a := 0) (x := x) (by omega)
  rw [Nat.zero_add] at e
  rw [e] at this
  refine this.mono ?_
  rintro r w' ⟨h1, F', h2, h3⟩
  refine ⟨h1, F', ?_, h3⟩
  unfold EdL
  rw [List.length_append]
  exact h2
theorem Mov.below {F F' : Nat → Prop} {w w' : World} {B : Nat} (h : Mov F w w' F') (hB : B ≤ w.heap.size) (hF : ∀ k, F k → B ≤ k) : Below B w w' ∧ ∀ k, F' k → B ≤ k := by
  refine ⟨⟨h.keep.os, h.keep.tape, h.keep.output, h.keep.size, fun k hk => h.keep.block k (by omega) fun e => ?_⟩, fun k hk => ?_⟩
  · have := hF k e; omega
  · rcases h.new k hk with e | e
    · exact hF k e
    · omega
theorem fRootL {w : World} {q : Nat} {L : List (List UInt8)} {F : Nat → Prop} (h : EdL w q L F) (T : Tabs w) {R : List UInt8} (hR : Hid (Tree.root L = R)) : Calls Tryd.prog 17 #[.pointer (some ⟨q, 0, none⟩)] w fun r w' => r = .returned (sv R) ∧ Below w.heap.size w w' := by
  have := fRoot_any h T
  rwa [Cut.cmp_root L h.most, hR.out] at this
set_option maxRecDepth 100000 in
set_option maxHeartbeats 2000000 in
theorem fknown_any (w : World) (T : Tabs w) :
    Calls Tryd.prog 5 #[] w fun e w' => e = .returned (.bool true) ∧ Below w.heap.size w w' := by
  obtain ⟨a, ha⟩ : ∃ a, Hid (lf 1 = a) := ⟨_, rfl⟩
  obtain ⟨b, hb⟩ : ∃ a, Hid (lf 2 = a) := ⟨_, rfl⟩
  have la : a.length = 32 := by rw [← ha.out, lf_length]
  have lb : b.length = 32 := by rw [← hb.out, lf_length]
  obtain ⟨N, hN⟩ : ∃ N, Hid (Tree.nd a b = N) := ⟨_, rfl⟩
  have hN2 : Hid (nodeOf a b = (N, 0)) := by
    unfold Hid nodeOf
    rw [← hN.out]
    unfold Tree.nd
    rw [if_pos ⟨la, lb⟩, if_pos ⟨la, lb⟩]
  have hroot : Hid (Tree.root [a, b] = N) := by
    unfold Hid; rw [root2, hN.out]
  have HT := hid T
  have hT := T.lt
  clear T
  go_enter Tryd.func5, Tryd.ntmps5
  go_wp2_with (go_at_call 11; refine (fNew_any _ hT).mono ?_; rintro e w1 ⟨rfl, E1, B1⟩)
  have E1 := hid (EdL.nil E1)
  have B1 := hid B1
  go_wp2_with (go_at_call 23; fail)
  refine (lleaf_at 1 a ha _).mono ?_
  rintro e w2 ⟨rfl, hw2⟩
  have B2 := hid (B1.out.trans (hw2.mono B1.out.size))
  have E2 := hid (Ed.below E1.out hw2)
  have T2 := hid (HT.out.below B2.out hT)
  clear hw2 E1 B1
  go_wp2_with (go_at_call 12; fail)
  refine (fAddL E2.out a la (by simp) T2.out).mono ?_
  rintro e w3 ⟨rfl, F3, E3, M3⟩
  obtain ⟨b3, f3⟩ := M3.below (B := w.heap.size) B2.out.size (fun k hk => hk.1)
  have B3 := hid (B2.out.trans b3)
  have E3 := hid E3
  have F3' := hid f3
  clear b3 f3 M3 E2 B2 T2
  go_wp2_with (go_at_call 23; fail)
  refine (lleaf_at 2 b hb _).mono ?_
  rintro e w4 ⟨rfl, hw4⟩
  have B4 := hid (B3.out.trans (hw4.mono B3.out.size))
  have E4 := hid (Ed.below E3.out hw4)
  have T4 := hid (HT.out.below B4.out hT)
  clear hw4 E3 B3
  go_wp2_with (go_at_call 12; fail)
  refine (fAddL E4.out b lb (by simp) T4.out).mono ?_
  rintro e w5 ⟨rfl, F5, E5, M5⟩
  obtain ⟨b5, f5⟩ := M5.below (B := w.heap.size) B4.out.size F3'.out
  have B5 := hid (B4.out.trans b5)
  have E5 : Hid (EdL w5 w.heap.size [a, b] F5) := hid E5
  clear b5 f5 M5 E4 B4 T4 F3'
  go_wp2_with (go_at_call 23; fail)
  refine (lleaf_at 1 a ha _).mono ?_
  rintro e w6 ⟨rfl, hw6⟩
  go_wp2_with (go_at_call 23; fail)
  refine (lleaf_at 2 b hb _).mono ?_
  rintro e w7 ⟨rfl, hw7⟩
  have H7 := hid (hw6.trans (hw7.mono hw6.size))
  have B7 := hid (B5.out.trans (H7.out.mono B5.out.size))
  have E7 := hid (Ed.below E5.out H7.out)
  have T7 := hid (HT.out.below B7.out hT)
  clear hw6 hw7 H7 E5 B5
  go_wp2_with (go_at_call 24; fail)
  refine (node_at hN2 _ T7.out).mono ?_
  rintro e w8 ⟨rfl, hw8⟩
  have B8 := hid (B7.out.trans (hw8.mono B7.out.size))
  have E8 := hid (Ed.below E7.out hw8)
  clear hw8 E7 B7 T7
  go_wp2_with (go_at_call 16; fail)
  refine (fNodes_any E8.out).mono ?_
  rintro e w9 ⟨rfl, R9, hw9⟩
  have B9 := hid (B8.out.trans (hw9.mono B8.out.size))
  have E9 := hid (Ed.below E8.out hw9)
  have T9 := hid (HT.out.below B9.out hT)
  rw [Cut.cmp2, hN.out] at R9
  have c9 := R9.cell (j := 0) (p := N) rfl
  have e1 : (Cut.cmp [a, b] 0).length = 1 := by rw [Cut.cmp2]; rfl
  rw [e1]
  have hlt9 := R9.lt
  clear hw9 E8 B8 R9
  have i1 := fSize_any (w := w9) E9.out
  have i2 := fRootL E9.out T9.out hroot
  rw [svS N] at c9 i2
  rw [svS N]
  rw [show ([a, b] : List (List UInt8)).length = 2 from rfl] at i1
  go_wp2_with (first
    | (go_at_call 18; refine i1.mono ?_; rintro e w10 ⟨rfl, rfl⟩)
    | (go_at_call 17; refine i2.mono ?_; rintro e w11 ⟨rfl, hw11⟩))
  go_ret
  exact ⟨rfl, B9.out.trans (hw11.mono B9.out.size)⟩
end Go.Proofs.YtnnohacciikofaaDoor

namespace Go.Proofs.YtnnohacciikofaaDoor
open Go.RowKit
theorem Tb.next {w w' : World} (h : Tb w) (hb : Below w.heap.size w w') : Tb w' := h.below hb h.lt
/-- three edges that share nothing, from block B on -/
structure G3 (w : World) (B qe qg qc : Nat) (Le Lg Lc : List (List UInt8)) (Fe Fg Fc : Nat → Prop) : Prop where
  e : EdL w qe Le Fe
  g : EdL w qg Lg Fg
  c : EdL w qc Lc Fc
  eg : ∀ k, Fe k → ¬ Fg k
  ec : ∀ k, Fe k → ¬ Fc k
  gc : ∀ k, Fg k → ¬ Fc k
  B1 : ∀ k, Fe k → B ≤ k
  B2 : ∀ k, Fg k → B ≤ k
  B3 : ∀ k, Fc k → B ≤ k
  B0 : B ≤ w.heap.size
theorem G3.below {w w' : World} {B qe qg qc : Nat} {Le Lg Lc : List (List UInt8)} {Fe Fg Fc : Nat → Prop} (h : G3 w B qe qg qc Le Lg Lc Fe Fg Fc) (hb : Below w.heap.size w w') : G3 w' B qe qg qc Le Lg Lc Fe Fg Fc :=
  ⟨Ed.below h.e hb, Ed.below h.g hb, Ed.below h.c hb, h.eg, h.ec, h.gc, h.B1, h.B2, h.B3, Nat.le_trans h.B0 hb.size⟩
theorem G3.setE {w w' : World} {B qe qg qc : Nat} {Le Lg Lc Le' : List (List UInt8)} {Fe Fg Fc Fe' : Nat → Prop} (h : G3 w B qe qg qc Le Lg Lc Fe Fg Fc) (hm : Mov Fe w w' Fe') (he : EdL w' qe Le' Fe') : G3 w' B qe qg qc Le' Lg Lc Fe' Fg Fc ∧ Below B w w' := by
  obtain ⟨g1, g2⟩ := Ed.mov h.g hm fun k hk e => h.eg k e hk
  obtain ⟨c1, c2⟩ := Ed.mov h.c hm fun k hk e => h.ec k e hk
  obtain ⟨b1, b2⟩ := hm.below h.B0 h.B1
  exact ⟨⟨he, g1, c1, fun k hk e => g2 k e hk, fun k hk e => c2 k e hk, h.gc, b2, h.B2, h.B3, Nat.le_trans h.B0 b1.size⟩, b1⟩
theorem G3.setG {w w' : World} {B qe qg qc : Nat} {Le Lg Lc Lg' : List (List UInt8)} {Fe Fg Fc Fg' : Nat → Prop} (h : G3 w B qe qg qc Le Lg Lc Fe Fg Fc) (hm : Mov Fg w w' Fg') (he : EdL w' qg Lg' Fg') : G3 w' B qe qg qc Le Lg' Lc Fe Fg' Fc ∧ Below B w w' := by
  obtain ⟨e1, e2⟩ := Ed.mov h.e hm h.eg
  obtain ⟨c1, c2⟩ := Ed.mov h.c hm fun k hk e => h.gc k e hk
  obtain ⟨b1, b2⟩ := hm.below h.B0 h.B2
  exact ⟨⟨e1, he, c1, e2, h.ec, fun k hk e => c2 k e hk, h.B1, b2, h.B3, Nat.le_trans h.B0 b1.size⟩, b1⟩
theorem G3.setC {w w' : World} {B qe qg qc : Nat} {Le Lg Lc Lc' : List (List UInt8)} {Fe Fg Fc Fc' : Nat → Prop} (h : G3 w B qe qg qc Le Lg Lc Fe Fg Fc) (hm : Mov Fc w w' Fc') (he : EdL w' qc Lc' Fc') : G3 w' B qe qg qc Le Lg Lc' Fe Fg Fc' ∧ Below B w w' := by
  obtain ⟨e1, e2⟩ := Ed.mov h.e hm h.ec
  obtain ⟨g1, g2⟩ := Ed.mov h.g hm h.gc
  obtain ⟨b1, b2⟩ := hm.below h.B0 h.B3
  exact ⟨⟨e1, g1, he, h.eg, e2, g2, h.B1, h.B2, b2, Nat.le_trans h.B0 b1.size⟩, b1⟩
theorem fLoadL {L : List (List UInt8)} (hs : Tree.Hs L) (hL : L.length ≤ 1099511627776) (x : Addr) (cap : Nat) (w : World) (hA : At w (some x) (Cut.cmp L 0)) (Z : Tb w) :
    Calls Tryd.prog 59 #[.int .i64 ((L.length : Nat) : Int), .slice (some x) (Cut.cmp L 0).length cap] w fun r w' => ∃ q, r = .returned (.tuple #[.pointer (some ⟨q, 0, none⟩), .int .i64 0]) ∧ EdL w' q L (fun k => w.heap.size ≤ k ∧ k < w'.heap.size) ∧ Below w.heap.size w w' := by
  have hl : (Cut.cmp L 0).length = (Cut.cut 0 L.length).length := by rw [Cut.cmp_length, Nat.zero_add]
  have h81 := Cut.cut_len (a := 0) (b := L.length) hL (Nat.zero_le _)
  refine (fLoad_any (L.length : Int) (Cut.cmp L 0) (some x) cap w (by omega) hA Z).mono ?_
  rintro r w' ⟨hb, h⟩
  rw [if_pos (by unfold ldE; rw [if_pos (by omega), Int.toNat_natCast, if_pos hl, if_pos (hsB_of (Cut.cmp_hs hs))]), Int.toNat_natCast] at h
  obtain ⟨q, h1, h2⟩ := h
  exact ⟨q, h1, h2, hb⟩
theorem fCloneL {w : World} {q : Nat} {L : List (List UInt8)} {F : Nat → Prop} (h : EdL w q L F) : Calls Tryd.prog 44 #[.pointer (some ⟨q, 0, none⟩)] w fun r w' => ∃ q', r = .returned (.pointer (some ⟨q', 0, none⟩)) ∧ EdL w' q' L (fun k => w.heap.size ≤ k ∧ k < w'.heap.size) ∧ Below w.heap.size w w' := fClone_any h
theorem Tabs.next' {w w' : World} (h : Tabs w) (hb : Below w.heap.size w w') : Tabs w' := h.below hb h.lt
end Go.Proofs.YtnnohacciikofaaDoor

namespace Go.Proofs.YtnnohacciikofaaDoor
open Go.RowKit
theorem results_row_tmp {P : Program} {fn : Func} {p u : Tmp} {ty : TypeId} (h : fn.results = #[.cell p ty, .tmp u]) (tmps : Array Value) (w : World) (g : Nat) (t : TypeId) (cs : Array Value) (fr : Nat × Nat) (d : TypeDesc)
    (hp : tmps.getD p undef = .pointer (some ⟨g, 0, none⟩)) (hg : w.heap[g]? = some (.cells cs t fr))
    (hu : P.underlying ty = some d) (hd : (match d with | .struct _ | .array _ _ => true | _ => false) = true) (hi : (P.info? ty).map (·.size) = some cs.size) :
    (results fn tmps).run P w = .ok (.tuple #[.agg cs, tmps.getD u undef]) w := by
  rw [results_cell_tmp h, hp]
  simp [asAddr, run_loadVar_row w g t ty cs fr d hg hu hd hi, Result.andThen]
/-- nothing: beside an error -/
abbrev rng0 : Value := .agg #[.int .i64 0, .int .i64 0, .slice none 0 0]
/-- F3 -/
def cmpE (from_ : Int) (l : List (List UInt8)) : Int := if 0 ≤ from_ ∧ from_ ≤ 1099511627776 ∧ l.length ≤ 4096 then (if from_ + (l.length : Int) ≤ 1099511627776 then (if hsB l = true then 0 else 52) else 53) else 1
/-- what a call that makes a range answers: an error, or a range whose list is its own -/
def RgP (w : World) (c b e : Int) (H : List (List UInt8)) (r : Ending) (w' : World) : Prop :=
  Below w.heap.size w w' ∧ if c = 0 then ∃ v, r = .returned (.tuple #[rng b e v, .int .i64 0]) ∧ Own w' w.heap.size v (svs H) else r = .returned (.tuple #[rng0, .int .i64 c])
theorem RgP.bad {w w' : World} {c b e : Int} {H : List (List UInt8)} (hc : c ≠ 0) (hb : Below w.heap.size w w') : RgP w c b e H (.returned (.tuple #[rng0, .int .i64 c])) w' := by
  unfold RgP
  rw [if_neg hc]
  exact ⟨hb, rfl⟩
theorem RgP.ok {w w' : World} {b e : Int} {H : List (List UInt8)} {v : Value} (ho : Own w' w.heap.size v (svs H)) (hb : Below w.heap.size w w') : RgP w 0 b e H (.returned (.tuple #[rng b e v, .int .i64 0])) w' := by
  unfold RgP
  rw [if_pos rfl]
  exact ⟨hb, v, rfl, ho⟩
theorem Keep.toBelow {S : Nat → Prop} {w w' : World} {B : Nat} (h : Keep S w w') (hB : B ≤ w.heap.size) (hS : ∀ k, S k → B ≤ k) : Below B w w' :=
  ⟨h.os, h.tape, h.output, h.size, fun k hk => h.block k (by omega) fun e => by have := hS k e; omega⟩
theorem oneRg (b e : Int) (a : Option Addr) (n c : Nat) : (#[Value.int .i64 b, Value.int .i64 e, Value.slice a n c].all (·.oneCell')) = true := all_oneCell_toArray (cs := [Value.int .i64 b, Value.int .i64 e, Value.slice a n c]) fun v hv => by
  simp only [List.mem_cons, List.not_mem_nil, or_false] at hv
  rcases hv with rfl | rfl | rfl <;> rfl
theorem Own.from {w : World} {b0 B : Nat} {v : Value} {cs : List Value} (h : Own w b0 v cs) (hB : ∀ k, v.ownBlock = some k → B ≤ k) : Own w B v cs := by
  rcases h with h | ⟨g, cap, rfl, h1, h2⟩
  · exact .inl h
  · exact .inr ⟨g, cap, rfl, hB g rfl, h2⟩
/-- a list and a span, while the one grows with the other -/
structure Cj (w0 w' : World) (O : Nat → Prop) (q s a e : Nat) (v : Value) (H : List (List UInt8)) : Prop where
  nl : Nl w' q #[v] 67 v H
  sp : Sp w' s a e
  own : ∀ k, v.ownBlock = some k → O k
  keep : Keep (fun k => k = q ∨ k = s ∨ O k) w0 w'
/-- what the blocks are like -/
structure Co (w0 : World) (O : Nat → Prop) (q s : Nat) : Prop where
  up : ∀ k, w0.heap.size ≤ k → O k
  nq : ¬ O q
  ns : ¬ O s
  ne : q ≠ s
  tl : ∀ k, O k → 4 ≤ k
  tq : 4 ≤ q
  ts : 4 ≤ s
  tabs : Tabs w0
theorem Cj.tabs {w0 w' : World} {O : Nat → Prop} {q s a e : Nat} {v : Value} {H : List (List UInt8)} (h : Cj w0 w' O q s a e v H) (c : Co w0 O q s) : Tabs w' := by
  have ht := c.tabs.lt
  have h1 := c.tq
  have h2 := c.ts
  exact c.tabs.below (B := 4) (h.keep.toBelow ht fun k hk => by
    rcases hk with e | e | e
    · omega
    · omega
    · exact c.tl k e) (Nat.le_refl _)
theorem Cj.taken {w0 w1 w2 : World} {O : Nat → Prop} {q s a e e' : Nat} {v v' : Value} {H H' : List (List UInt8)} (h : Cj w0 w1 O q s a e v H) (c : Co w0 O q s) (hn : Nl w2 q #[v'] 67 v' H') (hk : Keep (Fp q v) w1 w2) (hv : ∀ j, v'.ownBlock = some j → v.ownBlock = some j ∨ w1.heap.size ≤ j) :
    Sp w2 s a e ∧ Cj w0 (w2.setCell ⟨s, 1, none⟩ (.int .i64 (e' : Int))) O q s a e' v' H' := by
  have hsv : ∀ k, Fp q v k → k ≠ s := fun k hk e => by
    rcases hk with hk | hk
    · exact c.ne (hk.symm.trans e)
    · exact c.ns (e ▸ h.own k hk)
  have hs2 : Sp w2 s a e := (hk.block s (lt_of_heap h.sp) fun e => hsv s e rfl).trans h.sp
  have hO : ∀ k, v'.ownBlock = some k → O k := fun k hk' => by
    rcases hv k hk' with e | e
    · exact h.own k e
    · exact c.up k (Nat.le_trans h.keep.size e)
  have kset := Keep.ofSet (S := fun k => k = s) w2 s 1 (.int .i64 (e' : Int)) rfl
  refine ⟨hs2, ⟨hn.keep kset fun k hk' e => ?_, hs2.set1 e', hO, ?_⟩⟩
  · rcases hk' with hk' | hk'
    · exact c.ne (hk'.symm.trans e)
    · exact c.ns (e ▸ hO k hk')
  · refine (h.keep.trans hk fun k hk0 e => ?_).trans kset fun k _ e => .inr (.inl e)
    rcases e with e | e
    · exact .inl e
    · exact .inr (.inr (h.own k e))
theorem lh_take {l : List (List UInt8)} {j : Nat} (h : j < l.length) : l.take j ++ [l[j]] = l.take (j + 1) := by rw [List.take_append_getElem]
set_option maxRecDepth 100000 in
set_option maxHeartbeats 4000000 in
theorem Compact_any (fr : Int) (l : List (List UInt8)) (a : Option Addr) (cap : Nat) (w : World) (h1 : -9223372036854775808 ≤ fr) (h2 : fr ≤ 9223372036854775807) (hl : l.length ≤ 9223372036854775807) (hA : At w a l) (T : Tabs w) :
    Calls Tryd.prog 8 #[.int .i64 fr, .slice a l.length cap] w (RgP w (cmpE fr l) fr (fr + l.length) (Cut.cmp l fr.toNat)) := by
  have BZ := hid ((Below.refl w.heap.size w).alloc (Nat.le_refl _) (.cells #[Value.int .i64 0, .int .i64 0, .slice none 0 0] 28))
  have RZ := hid (heap_alloc_new w (.cells #[Value.int .i64 0, .int .i64 0, .slice none 0 0] 28))
  by_cases c1 : 0 ≤ fr ∧ fr ≤ 1099511627776
  · have i1 := isPlace_is fr true (by simpa using c1)
    by_cases c2 : l.length ≤ 4096
    · have d2 : ¬ (4096 : Int) < (l.length : Int) := by omega
      by_cases c3 : fr + (l.length : Int) ≤ 1099511627776
      · have d3 : ¬ (1099511627776 : Int) < fr + (l.length : Int) := by omega
        by_cases c4 : hsB l = true
        · have e0 : cmpE fr l = 0 := by unfold cmpE; rw [if_pos ⟨c1.1, c1.2, c2⟩, if_pos c3, if_pos c4]
          rw [e0]
          have i2 := fun w' hA' => areHashes_is l true c4 a cap w' hl hA'
          obtain ⟨b, rfl⟩ := Int.eq_ofNat_of_zero_le c1.1
          rw [Int.toNat_natCast]
          have HA := hid hA
          have HT := hid T
          have hT := T.lt
          have C4 := hid c4
          obtain ⟨n, hn⟩ : ∃ n : Nat, Hid (l.length = n) := ⟨_, rfl⟩
          rw [hn.out] at i2 hl c2 c3 d2 d3 ⊢
          clear e0 hA T c4 h1 h2
          go_enter Tryd.func8, Tryd.ntmps8
          go_wp2_with (first
            | (go_at_call 25; refine (i1 _).mono ?_; rintro r w1 ⟨rfl, rfl⟩)
            | (go_at_call 26; refine (i2 _ (HA.out.below BZ.out (Nat.le_refl _))).mono ?_; rintro r w2 ⟨rfl, rfl⟩))
          have w0e : ∃ w0, ((w.alloc (.cells #[Value.int .i64 0, .int .i64 0, .slice none 0 0] 28)).alloc (.cells #[Value.slice none 0 0] 67)).alloc (.cells #[Value.int .i64 (b : Int), Value.int .i64 (b : Int)] 69) = w0 := ⟨_, rfl⟩
          obtain ⟨w0, hw0⟩ := w0e
          obtain ⟨r0, r1, r2, r3⟩ := alloc3 w (.cells #[Value.int .i64 0, .int .i64 0, .slice none 0 0] 28) (.cells #[Value.slice none 0 0] 67) (.cells #[Value.int .i64 (b : Int), Value.int .i64 (b : Int)] 69)
          have B0 := below_alloc3 w (.cells #[Value.int .i64 0, .int .i64 0, .slice none 0 0] 28) (.cells #[Value.slice none 0 0] 67) (.cells #[Value.int .i64 (b : Int), Value.int .i64 (b : Int)] 69)
          rw [hw0] at r0 r1 r2 r3 B0 ⊢
          have hc : Hid (Co w0 (fun k => w0.heap.size ≤ k) (w.heap.size + 1) (w.heap.size + 1 + 1)) := ⟨fun _ h => h, by omega, by omega, by omega, fun k hk => by omega, by omega, by omega, HT.out.below B0 hT⟩
          have hc0 : Hid (Cj w0 w0 (fun k => w0.heap.size ≤ k) (w.heap.size + 1) (w.heap.size + 1 + 1) b (b + 0) (.slice none 0 0) (Cut.cmp (l.take 0) b)) := by
            refine ⟨⟨r1, rfl, ?_, fun e => by cases e⟩, r2, fun _ hk => (by cases hk), Keep.refl _ _⟩
            rw [List.take_zero, Cut.cmp_nil]
            exact Own.nil _ _
          have HR0 := hid r0
          have HB0 := hid B0
          have hsz0 := hid r3
          clear r0 r1 r2 B0 hw0 BZ RZ i1 i2 d2 d3
          go_loopw [37] (fun i w' => ∃ (j : Nat) (v : Value), i = .int .i64 (j : Int) ∧ j ≤ n ∧ Hid (Cj w0 w' (fun k => w0.heap.size ≤ k) (w.heap.size + 1) (w.heap.size + 1 + 1) b (b + j) v (Cut.cmp (l.take j) b))) (fun i _ => n - (intOf i).toNat)
          case atStart => exact ⟨0, _, rfl, by omega, hc0⟩
          case round =>
            clear hc0
            obtain ⟨j, v, rfl, hj, hC⟩ := hrel
            have s0 := hC.out.sp.c0
            have s1 := hC.out.sp.c1
            have f1 := hC.out.sp.f1
            by_cases hjn : j < n
            · have q0 : (j : Int) < (n : Int) := by omega
              have A5 := HA.out.below (HB0.out.trans (hC.out.keep.toBelow (B := w.heap.size) HB0.out.size (fun k hk => by rcases hk with e | e | e <;> omega))) (Nat.le_refl _)
              obtain ⟨y, rfl⟩ := A5.pos (by have := hn.out; omega)
              obtain ⟨x, hx, hcell⟩ := A5.cell j (by have := hn.out; omega)
              have i3 := take_any (w.heap.size + 1) b (b + j) 0 _ _ _ _ x.data.toList _ hC.out.nl (hC.out.tabs hc.out) (by omega) (fun k hk => hc.out.tl k (hC.out.own k hk)) (by have : (2 : Nat) ^ 0 = 1 := rfl; omega) (by omega) (Nat.mod_one _) (by rw [Cut.cmp_length, List.length_take, hn.out, Nat.min_eq_left hj])
              have e3 : Cut.takeH b (b + j) (2 ^ 0) x.data.toList (Cut.cmp (l.take j) b) = Cut.cmp (l.take (j + 1)) b := by
                have hlj : (l.take j).length = j := by rw [List.length_take, hn.out, Nat.min_eq_left hj]
                have := Cut.cmp_snoc (L := l.take j) (a := b) (x := x.data.toList) (by rw [hlj]; omega)
                rw [hlj] at this
                rw [show (2 : Nat) ^ 0 = 1 from rfl, this, hx.out, List.take_append_getElem]
              rw [e3, show sv x.data.toList = .string x from by cases x; rfl] at i3
              clear A5 hx e3
              go_wp2_with (first
                | ((with_reducible show wpList _ _ _ (Oper.mk _ (Op.load 69 _) _ _ _ _ :: _) _ _); go_must (refine wpList_load_row rfl 69 _ rfl (w.heap.size + 1 + 1) rfl 69 _ (0, 0) _ hC.out.sp.row Tryd.underlying69 rfl (sizeSp' _ _) ?_))
                | (go_at_call 27; refine i3.mono ?_; rintro r w2 ⟨rfl, v', hL2, hK2, hv2⟩; obtain ⟨S2, C2⟩ := hC.out.taken (e' := b + j + 1) hc.out hL2 hK2 hv2; have t1 := S2.c1; have g1 := S2.f1))
              exact ⟨⟨j + 1, v', by go_num, by omega, C2⟩, by simp [intOf]; omega⟩
            · obtain rfl : j = n := by omega
              have q0 : ¬ (j : Int) < (j : Int) := by omega
              have hl0 := hC.out.nl.c0
              obtain ⟨va, vn, vc, rfl⟩ := own_sl hC.out.nl.own
              have HR5 : wr.heap[w.heap.size]? = some (.cells #[Value.int .i64 0, .int .i64 0, .slice none 0 0] 28 (0, 0)) := (hC.out.keep.block w.heap.size (by have := hsz0.out; omega) (fun e => by have := hsz0.out; rcases e with e | e | e <;> omega)).trans HR0.out
              have hlt : l.take j = l := by rw [← hn.out, List.take_length]
              have hsz := hsz0.out
              go_wp2_with ((with_reducible show wpList _ _ _ (Oper.mk _ (Op.store 28 _ _) _ _ _ _ :: _) _ _); go_must (refine wpList_store_row rfl 28 _ _ rfl w.heap.size _ rfl rfl 28 _ HR5 (sizeRg' _ _ _) rfl (oneRg _ _ _ _ _) ?_))
              refine bodyPost_ret (results_row_tmp rfl _ _ w.heap.size 28 _ (0, 0) _ rfl (setRow_heap _ _ _ _ _ _ HR5) Tryd.underlying28 rfl sizeRg) rfl ?_
              have ho := hC.out.nl.own
              rw [hlt] at ho
              refine RgP.ok ?_ ?_
              · have k1 : Keep (fun k => k = w.heap.size) wr (wr.setRow w.heap.size #[.int .i64 (b : Int), .int .i64 ((b + j : Nat) : Int), .slice va vn vc]) := ⟨rfl, rfl, rfl, by rw [setRow_size]; exact Nat.le_refl _, fun k _ hk => setRow_other wr _ k _ hk⟩
                refine (ho.from (B := w.heap.size) fun k hk => ?_).keep k1 fun k hk e => ?_
                · have : w0.heap.size ≤ k := hC.out.own k hk
                  omega
                · have : w0.heap.size ≤ k := hC.out.own k hk
                  omega
              · refine Below.setRow (HB0.out.trans (hC.out.keep.toBelow (B := w.heap.size) HB0.out.size (fun k hk => ?_))) (Nat.le_refl _) _
                rcases hk with e | e | e
                · omega
                · omega
                · have : w0.heap.size ≤ k := e
                  omega
        · have e0 : cmpE fr l = 52 := by unfold cmpE; rw [if_pos ⟨c1.1, c1.2, c2⟩, if_pos c3, if_neg c4]
          rw [e0]
          have i2 := fun w' hA' => areHashes_is l false (by simpa using c4) a cap w' hl hA'
          have HA := hid hA
          generalize l.length = n at *
          clear e0 hA T c4
          go_enter Tryd.func8, Tryd.ntmps8
          go_wp2_with (first
            | (go_at_call 25; refine (i1 _).mono ?_; rintro r w1 ⟨rfl, rfl⟩)
            | (go_at_call 26; refine (i2 _ (HA.out.below BZ.out (Nat.le_refl _))).mono ?_; rintro r w2 ⟨rfl, rfl⟩))
          refine bodyPost_ret (results_row_tmp rfl _ _ w.heap.size 28 _ (0, 0) _ rfl RZ.out Tryd.underlying28 rfl sizeRg) rfl ?_
          exact RgP.bad (by omega) BZ.out
      · have d3 : (1099511627776 : Int) < fr + (l.length : Int) := by omega
        have e0 : cmpE fr l = 53 := by unfold cmpE; rw [if_pos ⟨c1.1, c1.2, c2⟩, if_neg c3]
        rw [e0]
        generalize l.length = n at *
        clear e0 hA T
        go_enter Tryd.func8, Tryd.ntmps8
        go_wp2_with (go_at_call 25; refine (i1 _).mono ?_; rintro r w1 ⟨rfl, rfl⟩)
        refine bodyPost_ret (results_row_tmp rfl _ _ w.heap.size 28 _ (0, 0) _ rfl RZ.out Tryd.underlying28 rfl sizeRg) rfl ?_
        exact RgP.bad (by omega) BZ.out
    · have d2 : (4096 : Int) < (l.length : Int) := by omega
      have e0 : cmpE fr l = 1 := by unfold cmpE; rw [if_neg (fun h => c2 h.2.2)]
      rw [e0]
      generalize l.length = n at *
      clear e0 hA T
      go_enter Tryd.func8, Tryd.ntmps8
      go_wp2_with (go_at_call 25; refine (i1 _).mono ?_; rintro r w1 ⟨rfl, rfl⟩)
      refine bodyPost_ret (results_row_tmp rfl _ _ w.heap.size 28 _ (0, 0) _ rfl RZ.out Tryd.underlying28 rfl sizeRg) rfl ?_
      exact RgP.bad (by omega) BZ.out
  · have i1 := isPlace_is fr false (by simpa using c1)
    have e0 : cmpE fr l = 1 := by unfold cmpE; rw [if_neg (fun h => c1 ⟨h.1, h.2.1⟩)]
    rw [e0]
    generalize l.length = n at *
    clear e0 hA T
    go_enter Tryd.func8, Tryd.ntmps8
    go_wp2_with (go_at_call 25; refine (i1 _).mono ?_; rintro r w1 ⟨rfl, rfl⟩)
    refine bodyPost_ret (results_row_tmp rfl _ _ w.heap.size 28 _ (0, 0) _ rfl RZ.out Tryd.underlying28 rfl sizeRg) rfl ?_
    exact RgP.bad (by omega) BZ.out
end Go.Proofs.YtnnohacciikofaaDoor
