import Derived.Maps.Keyed
import Derived.DeepKeys4
import Derived.WideKeyEntry
import Derived.Test.YtmpaliocfikifaaGreatDoorCW3
import Derived.Test.YtmpaliocfikifaaGreatDoorCBM1
import Derived.Test.YtmpaliocfikifaaGreatDoorCO52
import Derived.Test.YtmpaliocfikifaaGreatDoorCO4
import Derived.Test.YtmpaliocfikifaaGreatDoorCO29
import Derived.Deep.RegionHeld3
namespace Go.Proofs.YtmpaliocfikifaaGreatDoor
open Go.RowKit
open Go.WideMaps (KeyLaw)
open Go.ChangeMaps (setBlock)
namespace Bat
theorem rowSp : (72 : TypeId) < Tryz.prog.types.size := of_decide_eq_true (by kernel_rfl)
theorem wideSp : (match Tryz.prog.underlying 72 with | some (.array _ _) | some (.struct _) => true | _ => false) = true := by kernel_rfl
theorem keyAtSp : Tryz.prog.keyTypeAt 2 72 = true := by kernel_rfl
set_option maxRecDepth 1000000 in
theorem lawSp : KeyLaw Tryz.prog 72 := deep_law_laid laidOutT (m := 2) (by omega) rowSp keyAtSp wideSp
theorem undKn : Tryz.prog.underlying 90 = some (.map 72 102) := by kernel_rfl
theorem infoHs : (Tryz.prog.info? 102).map (fun i => (i.zero, i.size, i.bytes)) = some (some (.agg #[.string ⟨#[]⟩]), 1, 16) := by kernel_rfl
theorem zeroHs (w : World) : (zeroValue 102).run Tryz.prog w = .ok (.agg #[.string ⟨#[]⟩]) w := by
  obtain ⟨i0, hi, hz0, hz1, hz2⟩ := info_parts infoHs
  simp [zeroValue, typeInfo, hi, hz0]
theorem keyTyS : Tryz.prog.keyType 72 = true := by kernel_rfl
theorem cellsSpK : Tryz.prog.cellsOf 72 = 2 := by kernel_rfl
theorem undSp : ∃ f g : Field, Tryz.prog.underlying 72 = some (.struct #[f, g]) ∧ f.type = 3 ∧ g.type = 3 ∧ f.offset = 0 ∧ g.offset = 1 ∧ (f.name != "_") = true ∧ (g.name != "_") = true := by
  exact ⟨_, _, Tryz.underlying72, rfl, rfl, rfl, rfl, by decide, by decide⟩
theorem keySp {p : Int × Int} (h : InR p) : ∃ l, keyOf Tryz.prog 72 (kv p) = some l := by
  have h1 := wf64 h.1.1 h.1.2
  have h2 := wf64 h.2.1 h.2.2
  obtain ⟨f, g, hu, hf, hg, hfo, hgo, hfn, hgn⟩ := undSp
  have k1 : ∀ (n : Nat) (a : Int), (Lit.int .i64 a).wf = true → Tryz.prog.keyLits (n + 1) 3 [.int .i64 a] = some [.int .i64 a] := fun n a ha => by
    unfold Program.keyLits
    simp [ha]
  have hfm : (kv p).formed Tryz.prog 72 = true := by
    unfold kv Value.formed
    rw [hu]
    simp [cellsSpK]
  have h3 : Tryz.prog.keyLits (Tryz.prog.types.size + 1) 72 (kv p).cells.toList = some [.int .i64 p.1, .int .i64 p.2] := by
    have e : (kv p).cells.toList = [.int .i64 p.1, .int .i64 p.2] := rfl
    rw [typesT, e]
    unfold Program.keyLits
    rw [hu]
    simp [cellsSpK, cellsIT, hf, hg, hfo, hgo, hfn, hgn, k1 _ _ h1, k1 _ _ h2]
  refine ⟨.string (keyBytes [.int .i64 p.1, .int .i64 p.2]), ?_⟩
  unfold keyOf
  rw [hu]
  simp only [keyTyS, hfm, Bool.and_self, if_true, h3, Option.map_some]
/-- a span's value -/
def kn (s : Nat × Nat) : Value := kv ((s.1 : Int), (s.2 : Int))
def Lo (s : Nat × Nat) : Prop := s.1 ≤ 1099511627776 ∧ s.2 ≤ 1099511627776
theorem Lo.r {s : Nat × Nat} (h : Lo s) : InR ((s.1 : Int), (s.2 : Int)) := by unfold Lo at h; exact ⟨⟨by show _ ≤ (s.1 : Int); omega, by show (s.1 : Int) ≤ _; omega⟩, by show _ ≤ (s.2 : Int); omega, by show (s.2 : Int) ≤ _; omega⟩
theorem kn_inj {s t : Nat × Nat} (h : kn s = kn t) : s = t := by
  have := kv_inj h
  simp only [Prod.mk.injEq] at this
  exact Prod.ext (by omega) (by omega)
/-- a hash's value -/
def hv (x : List UInt8) : Value := .agg #[sv x]
theorem field_hash (s : ByteArray) (w : World) : (Instr.field 102 (.agg #[.string s]) 0).run Tryz.prog w = .ok (.string s) w := by
  simp [Instr.field, run_underlying Tryz.underlying102, asAgg, part, Result.andThen]
/-- what is known, in memory -/
structure Mk (w : World) (b : Nat) (f : Kn) : Prop where
  m : ∃ arr clock, w.heap[b]? = some (.map arr clock) ∧ (arr.toList.map (·.key)).Nodup ∧ (∀ e ∈ arr.toList, ∃ s h, e.key = kn s ∧ e.val = hv h ∧ f s = some h ∧ Lo s) ∧ ∀ s, f s ≠ none → ∃ e ∈ arr.toList, e.key = kn s
theorem Mk.heap {w w' : World} {b : Nat} {f : Kn} (h : Mk w b f) (hb : w'.heap[b]? = w.heap[b]?) : Mk w' b f := by
  obtain ⟨arr, clock, h1, h2⟩ := h.m
  exact ⟨arr, clock, hb.trans h1, h2⟩
theorem Mk.lt {w : World} {b : Nat} {f : Kn} (h : Mk w b f) : b < w.heap.size := by
  obtain ⟨arr, clock, h1, _⟩ := h.m
  exact (Array.getElem?_eq_some_iff.1 h1).1
theorem Mk.below {w w' : World} {b B : Nat} {f : Kn} (h : Mk w b f) (hb : Below B w w') (hB : b < B) : Mk w' b f := h.heap (hb.block b hB)
theorem Mk.new (w : World) : Mk (w.alloc (.map #[] 0)) w.heap.size (fun _ => none) :=
  ⟨#[], 0, (MapKept.heap_alloc w _).1, by simp, by simp, fun s hs => absurd rfl hs⟩
theorem Mk.keysOk {arr : Array MapEntry} {f : Kn} (h : ∀ e ∈ arr.toList, ∃ s h, e.key = kn s ∧ e.val = hv h ∧ f s = some h ∧ Lo s) : ∀ e ∈ arr.toList, ∃ l, keyOf Tryz.prog 72 e.key = some l := fun e he => by
  obtain ⟨s, x, h1, _, _, h4⟩ := h e he
  rw [h1]
  exact keySp h4.r
theorem Mk.find {w : World} {arr : Array MapEntry} {f : Kn} (h3 : ∀ e ∈ arr.toList, ∃ s h, e.key = kn s ∧ e.val = hv h ∧ f s = some h ∧ Lo s) (h4 : ∀ s, f s ≠ none → ∃ e ∈ arr.toList, e.key = kn s) {s : Nat × Nat} (hs : Lo s) :
    ((Instr.findKey 72 (kn s) arr.toList).run Tryz.prog w = .ok none w ∧ f s = none ∧ ∀ e ∈ arr.toList, e.key ≠ kn s) ∨
    ∃ j e x, (Instr.findKey 72 (kn s) arr.toList).run Tryz.prog w = .ok (some (j, hv x)) w ∧ f s = some x ∧ arr.toList[j]? = some e ∧ e.key = kn s := by
  obtain ⟨l, hl⟩ := keySp hs.r
  rcases lawSp.find w hl arr.toList (Mk.keysOk h3) with ⟨f1, f2⟩ | ⟨j, e0, f1, f2, f3⟩
  · refine .inl ⟨f1, ?_, f2⟩
    cases e : f s with
    | none => rfl
    | some x =>
      obtain ⟨e1, he, hk⟩ := h4 s (by rw [e]; simp)
      exact absurd hk (f2 e1 he)
  · obtain ⟨t, x, g1, g2, g3, g4⟩ := h3 e0 (List.mem_of_getElem? f2)
    have : t = s := kn_inj (g1.symm.trans f3)
    subst this
    rw [g2] at f1
    exact .inr ⟨j, e0, x, f1, g3, f2, f3⟩
/-- k[s], that is known -/
theorem Mk.get {w : World} {b : Nat} {f : Kn} (h : Mk w b f) {s : Nat × Nat} (hs : Lo s) {x : List UInt8} (hx : f s = some x) : (Instr.lookup 90 (.map (some b)) (.agg #[.int .i64 (s.1 : Int), .int .i64 (s.2 : Int)]) false).run Tryz.prog w = .ok (.agg #[sv x]) w := by
  obtain ⟨arr, clock, hb, h2, h3, h4⟩ := h.m
  obtain ⟨l, hl⟩ := keySp hs.r
  have hc := lawSp.check w arr.isEmpty hl
  simp only [kv] at hc
  rcases Mk.find (w := w) h3 h4 hs with ⟨f1, f2, _⟩ | ⟨j, e, y, f1, f2, _⟩
  · rw [hx] at f2; cases f2
  · rw [hx] at f2
    cases f2
    simp only [kn, kv, hv] at f1
    simp [Instr.lookup, run_underlying undKn, MapKept.run_getObj_map hb, hc, f1, Result.andThen]
/-- _, ok := k[s] -/
theorem Mk.ok {w : World} {b : Nat} {f : Kn} (h : Mk w b f) {s : Nat × Nat} (hs : Lo s) : ∃ v : ByteArray, (Instr.lookup 90 (.map (some b)) (.agg #[.int .i64 (s.1 : Int), .int .i64 (s.2 : Int)]) true).run Tryz.prog w = .ok (.tuple #[.agg #[.string v], .bool (f s).isSome]) w := by
  obtain ⟨arr, clock, hb, h2, h3, h4⟩ := h.m
  obtain ⟨l, hl⟩ := keySp hs.r
  have hc := lawSp.check w arr.isEmpty hl
  simp only [kv] at hc
  rcases Mk.find (w := w) h3 h4 hs with ⟨f1, f2, _⟩ | ⟨j, e, y, f1, f2, _⟩
  · rw [f2]
    refine ⟨⟨#[]⟩, ?_⟩
    simp only [kn, kv] at f1
    simp [Instr.lookup, run_underlying undKn, MapKept.run_getObj_map hb, hc, f1, zeroHs w, Result.andThen]
  · rw [f2]
    refine ⟨⟨y.toArray⟩, ?_⟩
    simp only [kn, kv, hv] at f1
    simp [Instr.lookup, run_underlying undKn, MapKept.run_getObj_map hb, hc, f1, Result.andThen, sv]
/-- k[s] = x -/
theorem Mk.put {w : World} {b : Nat} {f : Kn} (h : Mk w b f) {s : Nat × Nat} (hs : Lo s) (x : List UInt8) :
    ∃ w', (Instr.mapUpdate 90 (.map (some b)) (.agg #[.int .i64 (s.1 : Int), .int .i64 (s.2 : Int)]) (.agg #[sv x])).run Tryz.prog w = .ok () w' ∧ Mk w' b (upd f s x) ∧ But b w w' ∧ w'.heap.size = w.heap.size := by
  obtain ⟨arr, clock, hb, h2, h3, h4⟩ := h.m
  obtain ⟨l, hl⟩ := keySp hs.r
  have hc := lawSp.check w false hl
  rcases Mk.find (w := w) h3 h4 hs with ⟨f1, f2, f3⟩ | ⟨j, e0, y, f1, f2, f3, f4⟩
  · refine ⟨setBlock w b (.map (arr.push ⟨kn s, hv x, clock⟩) (clock + 1)), ?_, ⟨_, _, setBlock_at hb, ?_, ?_, ?_⟩, (But.refl b w).setBlock _, by simp [setBlock]⟩
    · simp only [kn, kv] at f1
      simp only [kv] at hc
      simp [Instr.mapUpdate, run_underlying undKn, MapKept.run_getObj_map hb, hc, f1, MapKept.run_setObj_map _ hb, setBlock, kn, kv, hv]
    · simp only [Array.toList_push, List.map_append, List.map_cons, List.map_nil]
      refine List.nodup_append.2 ⟨h2, by simp, fun a ha c hc' e1 => ?_⟩
      simp only [List.mem_singleton] at hc'
      obtain ⟨e, he, rfl⟩ := List.mem_map.1 ha
      exact f3 e he (e1.trans hc')
    · intro e he
      rw [Array.toList_push, List.mem_append, List.mem_singleton] at he
      rcases he with he | rfl
      · obtain ⟨t, z, g1, g2, g3, g4⟩ := h3 e he
        refine ⟨t, z, g1, g2, ?_, g4⟩
        unfold upd
        rw [if_neg (fun q => f3 e he (by rw [g1, q]))]
        exact g3
      · exact ⟨s, x, rfl, rfl, by unfold upd; rw [if_pos rfl], hs⟩
    · intro t ht
      unfold upd at ht
      by_cases q : t = s
      · subst q
        exact ⟨⟨kn t, hv x, clock⟩, by simp, rfl⟩
      · rw [if_neg q] at ht
        obtain ⟨e, he, hk⟩ := h4 t ht
        exact ⟨e, by simp [he], hk⟩
  · have hj : arr[j]? = some e0 := by simpa using f3
    have hlist : (arr.modify j (fun e => { e with key := kn s, val := hv x })).toList = arr.toList.set j ⟨kn s, hv x, e0.born⟩ := by
      rw [Array.toList_modify, ChangeMaps.modify_eq_set _ _ _ _ f3]
    have hkeys : (arr.toList.set j ⟨kn s, hv x, e0.born⟩).map (·.key) = arr.toList.map (·.key) := by
      rw [List.map_set]
      refine WideElems.set_self _ _ _ ?_
      rw [List.getElem?_map, f3]
      simp [f4]
    refine ⟨setBlock w b (.map (arr.modify j (fun e => { e with key := kn s, val := hv x })) clock), ?_, ⟨_, _, setBlock_at hb, ?_, ?_, ?_⟩, (But.refl b w).setBlock _, by simp [setBlock]⟩
    · have hst := lawSp.stays w hl
      simp only [kn, kv] at f1 f4
      simp only [kv] at hc hst
      simp [Instr.mapUpdate, run_underlying undKn, MapKept.run_getObj_map hb, hc, f1, hj, f4, hst, MapKept.run_setObj_map _ hb, Result.andThen, setBlock, kn, kv, hv]
    · rw [hlist, hkeys]; exact h2
    · intro e he
      rw [hlist] at he
      obtain ⟨k, hk, hke⟩ := List.mem_iff_getElem.1 he
      by_cases q : j = k
      · subst q
        rw [List.getElem_set_self] at hke
        subst hke
        exact ⟨s, x, rfl, rfl, by unfold upd; rw [if_pos rfl], hs⟩
      · rw [List.getElem_set_ne q] at hke
        rw [List.length_set] at hk
        have hm : e ∈ arr.toList := by rw [← hke]; exact List.getElem_mem hk
        obtain ⟨t, z, g1, g2, g3, g4⟩ := h3 e hm
        refine ⟨t, z, g1, g2, ?_, g4⟩
        unfold upd
        rw [if_neg (fun q2 => ?_)]
        · exact g3
        · subst q2
          have hjl := (List.getElem?_eq_some_iff.1 f3).1
          have e2 := (List.getElem?_eq_some_iff.1 f3).2
          have := (List.pairwise_iff_getElem.1 h2)
          rcases Nat.lt_or_gt_of_ne q with c | c
          · exact this j k (by simpa using hjl) (by simpa using hk) c (by rw [List.getElem_map, List.getElem_map, e2, hke, f4, g1])
          · exact this k j (by simpa using hk) (by simpa using hjl) c (by rw [List.getElem_map, List.getElem_map, e2, hke, f4, g1])
    · intro t ht
      rw [hlist]
      have hex : kn t ∈ (arr.toList.set j ⟨kn s, hv x, e0.born⟩).map (·.key) := by
        rw [hkeys]
        unfold upd at ht
        by_cases q : t = s
        · subst q
          exact List.mem_map.2 ⟨e0, List.mem_of_getElem? f3, f4⟩
        · rw [if_neg q] at ht
          obtain ⟨e, he, hk⟩ := h4 t ht
          exact List.mem_map.2 ⟨e, he, hk⟩
      obtain ⟨e, he, hk⟩ := List.mem_map.1 hex
      exact ⟨e, he, hk⟩
theorem But.keep12 {b : Nat} {w w' : World} (h : But b w w') : Keep (fun k => k = b) w w' := ⟨h.os, h.tape, h.output, h.size, fun k hk hs => h.block k hk hs⟩
theorem Mk.keep {w w' : World} {b : Nat} {f : Kn} {S : Nat → Prop} (h : Mk w b f) (hk : Keep S w w') (hs : ¬ S b) : Mk w' b f := h.heap (hk.block b h.lt hs)
theorem node_ok {a c : List UInt8} (ha : a.length = 32) (hc : c.length = 32) : nodeOf a c = (Tree.nd a c, 0) := by unfold nodeOf Tree.nd; rw [if_pos ⟨ha, hc⟩, if_pos ⟨ha, hc⟩]
/-- all that is known has 32 bytes -/
def W32 (f : Kn) : Prop := ∀ s h, f s = some h → h.length = 32
theorem W32.upd {f : Kn} (h : W32 f) (s : Nat × Nat) {x : List UInt8} (hx : x.length = 32) : W32 (Bat.upd f s x) := fun t y ht => by
  unfold Bat.upd at ht
  split at ht
  · rw [← Option.some.inj ht]; exact hx
  · exact h t y ht
theorem keep_below {S : Nat → Prop} {w w' : World} {B : Nat} (h : Keep S w w') (hB : B ≤ w.heap.size) (hS : ∀ k, S k → B ≤ k) : Below B w w' :=
  ⟨h.os, h.tape, h.output, h.size, fun k hk => h.block k (by omega) fun e => by have := hS k e; omega⟩
theorem tabs_keep {S : Nat → Prop} {w w' : World} (T : Tabs w) (hk : Keep S w w') (hS : ∀ k, S k → 4 ≤ k) : Tabs w' := T.below (keep_below hk (B := 4) T.lt hS) (Nat.le_refl _)
end Bat
end Go.Proofs.YtmpaliocfikifaaGreatDoor

namespace Go.Proofs.YtmpaliocfikifaaGreatDoor
open Go.RowKit Go.Shelf
/-- so far turned round: k from each end -/
def Tnd (L M : List (Nat × Nat)) (i : Nat) : Prop := M.length = L.length ∧ ∀ k, k < L.length → M[k]? = if k < i ∨ L.length ≤ k + i then L[L.length - 1 - k]? else L[k]?
theorem Tnd.start (L : List (Nat × Nat)) : Tnd L L 0 := ⟨rfl, fun k hk => by rw [if_neg (by omega)]⟩
theorem Tnd.done {L M : List (Nat × Nat)} {i : Nat} (h : Tnd L M i) (hi : L.length ≤ 2 * i + 1) : M = L.reverse := by
  refine List.ext_getElem? fun k => ?_
  by_cases hk : k < L.length
  · rw [h.2 k hk, List.getElem?_reverse hk]
    by_cases h2 : k < i ∨ L.length ≤ k + i
    · rw [if_pos h2]
    · rw [if_neg h2, show L.length - 1 - k = k by omega]
  · rw [List.getElem?_eq_none (by rw [h.1]; omega), List.getElem?_eq_none (by rw [List.length_reverse]; omega)]
theorem Tnd.step {L M : List (Nat × Nat)} {i : Nat} (h : Tnd L M i) (hi : 2 * i + 1 < L.length) {p q : Nat × Nat} (hp : M[i]? = some p) (hq : M[L.length - 1 - i]? = some q) : Tnd L ((M.set i q).set (L.length - 1 - i) p) (i + 1) := by
  have h1 := h.2 i (by omega)
  have h2 := h.2 (L.length - 1 - i) (by omega)
  rw [if_neg (by omega), hp] at h1
  rw [if_neg (by omega), hq] at h2
  refine ⟨by rw [List.length_set, List.length_set, h.1], fun k hk => ?_⟩
  by_cases e1 : k = L.length - 1 - i
  · rw [if_pos (by omega), e1, List.getElem?_set_self (by rw [List.length_set, h.1]; omega), h1, show L.length - 1 - (L.length - 1 - i) = i by omega]
  · rw [List.getElem?_set_ne (by omega)]
    by_cases e2 : k = i
    · rw [if_pos (by omega), e2, List.getElem?_set_self (by rw [h.1]; omega), h2]
    · rw [List.getElem?_set_ne (by omega), h.2 k hk]
      by_cases e3 : k < i ∨ L.length ≤ k + i
      · rw [if_pos e3, if_pos (by omega)]
      · rw [if_neg e3, if_neg (by omega)]
/-- a pair is written over -/
theorem prs_set : ∀ (l : List (Nat × Nat)) (j : Nat) (x y : Nat), prs (l.set j (x, y)) = ((prs l).set (j * 2) (.int .i64 (x : Int))).set (j * 2 + 1) (.int .i64 (y : Int))
  | [], j, x, y => by simp [prs]
  | a :: l, 0, x, y => rfl
  | a :: l, j + 1, x, y => by
    have ih := prs_set l j x y
    rw [show (j + 1) * 2 = j * 2 + 1 + 1 from by omega]
    show _ :: _ :: prs (l.set j (x, y)) = _
    rw [ih]; rfl
theorem OwnM.setC {w : World} {g n c m : Nat} {cs : List Value} (h : OwnM m w (.slice (some ⟨g, 0, none⟩) n c) n cs) (j : Nat) (v : Value) (hj : j < cs.length) : OwnM m (w.setCell ⟨g, j, none⟩ v) (.slice (some ⟨g, 0, none⟩) n c) n (cs.set j v) := by
  rcases h with ⟨h, _⟩ | ⟨g', cap', h, h2, h3, h0, h4, h5, h6⟩
  · cases h
  · injection h with e1 e2 e3
    injection e1 with e1
    injection e1 with e1
    subst e1 e3
    refine .inr ⟨g, c, rfl, h2, h3, by rw [List.length_set]; exact h0, fun k u hk => ?_, fun k hk => ?_, by rw [show (w.setCell ⟨g, j, none⟩ v).heap.size = w.heap.size from by simp [World.setCell]]; exact h6⟩
    · rw [Nat.zero_add]
      by_cases e : k = j
      · subst e
        rw [List.getElem?_set_self hj] at hk
        injection hk with hk
        subst hk
        have := h4 k (cs[k]'hj) (by simp)
        rw [Nat.zero_add] at this
        exact World.cell?_setCell_same' _ _ _ (by rw [this]; rfl)
      · rw [List.getElem?_set_ne (by omega)] at hk
        have := h4 k u hk
        rw [Nat.zero_add] at this
        rw [World.cell?_setCell_other w _ _ _ (fun q => e (by injection q with _ q; exact q.symm))]
        exact this
    · have := h5 k hk
      refine ⟨?_, ?_⟩
      · by_cases e : 0 + k = j
        · rw [e] at this ⊢
          rw [World.cell?_setCell_same' w ⟨g, j, none⟩ v this.1]; rfl
        · rw [World.cell?_setCell_other w _ _ _ (fun q => e (by injection q with _ q; exact q.symm))]
          exact this.1
      · rw [World.frozen?_setCell]; exact this.2
end Go.Proofs.YtmpaliocfikifaaGreatDoor

namespace Go.Proofs.YtmpaliocfikifaaGreatDoor
open Go.RowKit Go.Shelf
theorem getD_of {l : List (Nat × Nat)} {k : Nat} (h : k < l.length) : ∃ x y, l[k]? = some (x, y) := ⟨(l[k]'h).1, (l[k]'h).2, by rw [List.getElem?_eq_getElem h]⟩
set_option maxRecDepth 100000 in
set_option maxHeartbeats 8000000 in
theorem rev_any (L : List (Nat × Nat)) (v : Value) (w : World) (h : OwnP w v L) (hl : L.length ≤ 1099511627776) :
    Calls Tryz.prog 92 #[v] w fun r w' => r = .returned (.tuple #[]) ∧ OwnP w' v L.reverse ∧ Keep (fun k => v.ownBlock = some k) w w' := by
  obtain ⟨a, c, rfl, hc1, hc2⟩ := h.shape
  obtain ⟨n, hn⟩ : ∃ n, Hid (L.length = n) := ⟨_, rfl⟩
  rw [hn.out] at hc1 hl
  have hO := hid h
  unfold Hid OwnP at hO
  rw [hn.out] at hO ⊢
  have hO : Hid (OwnM 2 w (.slice a n c) n (prs L)) := hO
  clear h
  go_enter Tryz.func92, Tryz.ntmps92
  go_wp2
  go_loopw [2, 3] (fun vi vj wr => ∃ (i : Nat) (M : List (Nat × Nat)), vi = .int .i64 (i : Int) ∧ vj = .int .i64 ((n : Int) - 1 - (i : Int)) ∧ (i : Int) ≤ (n : Int) ∧ Hid (Tnd L M i) ∧ Hid (OwnM 2 wr (.slice a n c) n (prs M)) ∧ Hid (Keep (fun k => (Value.slice a n c).ownBlock = some k) w wr)) (fun vi _ _ => n - (intOf vi).toNat)
  case atStart =>
    exact ⟨0, L, rfl, by go_num, by omega, Tnd.start L, hO, Keep.refl _ _⟩
  case round =>
    clear hO
    obtain ⟨i, M, rfl, rfl, hi, hT, hO, hK⟩ := hrel
    by_cases hij : (i : Int) < (n : Int) - 1 - (i : Int)
    · have hT1 := hT.out.1
      rw [hn.out] at hT1
      obtain ⟨j, hj⟩ : ∃ j : Nat, (n : Int) - 1 - (i : Int) = (j : Int) := ⟨n - 1 - i, by omega⟩
      rw [hj] at hij ⊢
      obtain ⟨p1, p2, hp⟩ := getD_of (l := M) (k := i) (by omega)
      obtain ⟨q1, q2, hq⟩ := getD_of (l := M) (k := j) (by omega)
      obtain ⟨g, c', e1, ci0, _⟩ := hO.out.cell (prs_get hp).1
      injection e1 with e1 _ e3
      subst e1 e3
      have cellOf : ∀ {k : Nat} {u : Value}, (prs M)[k]? = some u → wr.cell? ⟨g, k, none⟩ = some u ∧ wr.frozen? ⟨g, k, none⟩ = false := fun {k u} hk => by
        rcases hO.out with ⟨h, _⟩ | ⟨g', cap', h, h2, h3, h0, h4, h5, h6⟩
        · cases h
        · injection h with e1 e2 e3
          injection e1 with e1
          injection e1 with e1
          subst e1 e3
          have a1 := h4 k u hk
          have a2 := h5 k (by have := (List.getElem?_eq_some_iff.1 hk).1; omega)
          rw [Nat.zero_add] at a1 a2
          exact ⟨a1, a2.2⟩
      have x0 := (cellOf (prs_get hp).1).1
      have x1 := (cellOf (prs_get hp).2).1
      have y0 := (cellOf (prs_get hq).1).1
      have y1 := (cellOf (prs_get hq).2).1
      have fx0 := (cellOf (prs_get hp).1).2
      have fx1 := (cellOf (prs_get hp).2).2
      have fy0 := (cellOf (prs_get hq).1).2
      have fy1 := (cellOf (prs_get hq).2).2
      have x0d : wr.drew.cell? ⟨g, i * 2, none⟩ = _ := x0
      have x1d : wr.drew.cell? ⟨g, i * 2 + 1, none⟩ = _ := x1
      have y0d : wr.drew.cell? ⟨g, j * 2, none⟩ = _ := y0
      have y1d : wr.drew.cell? ⟨g, j * 2 + 1, none⟩ = _ := y1
      have i0 : (0 : Int) ≤ (i : Int) := by omega
      have i1 : (i : Int) < (n : Int) := by omega
      have j0 : (0 : Int) ≤ (j : Int) := by omega
      have j1 : (j : Int) < (n : Int) := by omega
      have nij : ¬ i = j := by omega
      have nji : ¬ j = i := by omega
      clear cellOf hT1
      go_wp2
      go_region
      have O2 : Hid (OwnM 2 (((((wr.setCell ⟨g, i * 2, none⟩ (.int .i64 (q1 : Int))).setCell ⟨g, i * 2 + 1, none⟩ (.int .i64 (q2 : Int))).setCell ⟨g, j * 2, none⟩ (.int .i64 (p1 : Int))).setCell ⟨g, j * 2 + 1, none⟩ (.int .i64 (p2 : Int))).drew) (.slice (some ⟨g, 0, none⟩) n c) n (prs ((M.set i (q1, q2)).set j (p1, p2)))) := by
        have hpl : (prs M).length = n * 2 := by have := hO.out.len; exact this
        unfold Hid
        rw [prs_set, prs_set]
        exact ((((hO.out.setC (i * 2) _ (by omega)).setC (i * 2 + 1) _ (by rw [List.length_set]; omega)).setC (j * 2) _ (by rw [List.length_set, List.length_set]; omega)).setC (j * 2 + 1) _ (by rw [List.length_set, List.length_set, List.length_set]; omega))
      have K2 : Hid (Keep (fun k => (Value.slice (some ⟨g, 0, none⟩) n c).ownBlock = some k) w (((((wr.setCell ⟨g, i * 2, none⟩ (.int .i64 (q1 : Int))).setCell ⟨g, i * 2 + 1, none⟩ (.int .i64 (q2 : Int))).setCell ⟨g, j * 2, none⟩ (.int .i64 (p1 : Int))).setCell ⟨g, j * 2 + 1, none⟩ (.int .i64 (p2 : Int))).drew)) := by
        have k1 : ∀ (W : World) (o : Nat) (u : Value), Keep (fun k => (Value.slice (some ⟨g, 0, none⟩) n c).ownBlock = some k) W (W.setCell ⟨g, o, none⟩ u) := fun W o u => Keep.ofSet W g o u rfl
        have k2 := (((hK.out.trans (k1 _ (i * 2) (.int .i64 (q1 : Int))) fun _ _ h => h).trans (k1 _ (i * 2 + 1) (.int .i64 (q2 : Int))) fun _ _ h => h).trans (k1 _ (j * 2) (.int .i64 (p1 : Int))) fun _ _ h => h).trans (k1 _ (j * 2 + 1) (.int .i64 (p2 : Int))) fun _ _ h => h
        exact ⟨k2.os, k2.tape, k2.output, k2.size, k2.block⟩
      have T2 : Hid (Tnd L ((M.set i (q1, q2)).set j (p1, p2)) (i + 1)) := by
        have e : L.length - 1 - i = j := by rw [hn.out]; omega
        have := hT.out.step (p := (p1, p2)) (q := (q1, q2)) (by rw [hn.out]; omega) hp (by rw [e]; exact hq)
        rw [e] at this
        exact this
      clear x0 x1 y0 y1 fx0 fx1 fy0 fy1 x0d x1d y0d y1d ci0 hO hT hK
      generalize ((((wr.setCell ⟨g, i * 2, none⟩ (.int .i64 (q1 : Int))).setCell ⟨g, i * 2 + 1, none⟩ (.int .i64 (q2 : Int))).setCell ⟨g, j * 2, none⟩ (.int .i64 (p1 : Int))).setCell ⟨g, j * 2 + 1, none⟩ (.int .i64 (p2 : Int))).drew = w2 at *
      go_wp2
      exact ⟨⟨i + 1, _, by go_num, by go_num, by omega, T2, O2, K2⟩, by simp [intOf]; omega⟩
    · go_wp2
      go_end0
      have e := hT.out.done (by rw [hn.out]; omega)
      subst e
      refine ⟨rfl, ?_, hK.out⟩
      unfold OwnP
      rw [List.length_reverse, hn.out]
      exact hO.out
end Go.Proofs.YtmpaliocfikifaaGreatDoor

namespace Go.Proofs.YtmpaliocfikifaaGreatDoor
open Go.RowKit
/-- a region in a round is left at its end alone -/
def OnlyN (Q : Exit → Act → World → Prop) : Exit → Act → World → Prop
  | .normal, a, w => Q .normal a w
  | _, _, _ => False
theorem OnlyN.out {Q : Exit → Act → World → Prop} : ¬ LetsOut (OnlyN Q) := fun ⟨_, _, h⟩ => h
theorem oper_in {l n : Nat} {P : Program} {o : Oper} {a : Act} {w : World} {K : Act → World → Prop} {Q : Exit → Act → World → Prop} (hd : ∀ c, o.op ≠ .defer c)
    (h : o.wp P a w K (OnlyN Q)) : o.wpIn (Fence.wide.inRound l) n P a w K Q := by
  refine ⟨fun _ _ => trivial, ?_⟩
  have e : o.semAt (Fence.wide.inRound l).round a.eval = execOp a.eval o := Oper.semAt_eq _ _ _ hd
  rw [e]
  unfold Oper.wp at h
  generalize (execOp a.eval o).run P w = r at *
  cases r with
  | ok x w' =>
    cases x <;> simp only [Oper.upon, Oper.uponIn] at h ⊢
    case value v => exact h
    case skip => exact h
    case defer d => exact h
    case enter f args =>
      refine ⟨fun h => (by cases h), CallsIn.inRound l ((callsIn_wide.2 h).mono fun e w'' he => ?_)⟩
      cases e with
      | returned v => exact he
      | panicked c => exact he.elim
      | outgrown => exact (OnlyN.out he).elim
    case row row args =>
      refine ⟨fun h => (by cases h), fun c cs _ => ?_⟩
      obtain ⟨v, w'', hv, hs⟩ := h c cs
      exact ⟨v, w'', hv, stepsIn_wide.2 hs⟩
  | halt x w' =>
    cases x <;> simp only [Oper.upon, Oper.uponIn] at h ⊢
    exact h.elim
theorem wpOp_in {l n : Nat} {P : Program} {ops : Array Oper} {i : Nat} {a : Act} {w : World} {K : Act → World → Prop} {Q : Exit → Act → World → Prop} (hd : ∀ (j : Nat) (o : Oper) c, ops[j]? = some o → o.op ≠ .defer c)
    (h : wpOp P ops (OnlyN Q) i K a w) : wpOpIn (Fence.wide.inRound l) n P ops Q i K a w := by
  unfold wpOp at h
  unfold wpOpIn
  cases ho : ops[i]? with
  | none => rw [ho] at h; exact h
  | some o =>
    simp only [ho] at h ⊢
    split
    · rename_i hw
      simp only [hw, if_true] at h
      rcases h with h | ⟨_, h⟩
      · exact oper_in (fun c => hd i o c ho) h
      · exact (OnlyN.out h).elim
    · rename_i hw
      simp only [hw] at h
      exact ⟨fun _ _ => trivial, h⟩
theorem wpAny_in {l n : Nat} {P : Program} {ops : Array Oper} {md : Region.Mode} {Q : Exit → Act → World → Prop} (hd : ∀ (j : Nat) (o : Oper) c, ops[j]? = some o → o.op ≠ .defer c) :
    ∀ (fuel : Nat) (listed : Array Bool) (a : Act) (w : World), wpAny P md ops (OnlyN Q) fuel listed a w → wpAnyIn (Fence.wide.inRound l) n P md ops Q fuel listed a w
  | 0, _, _, _, h => h
  | fuel + 1, _, _, _, h => ⟨h.1, fun i hi => wpOp_in hd (wpOp_mono (fun a w h => wpAny_in hd fuel _ a w h) (h.2 i hi))⟩
/-- a region that draws, in a round -/
theorem round_held {l n id : Nat} {P : Program} {ops : Array Oper} {Q : Exit → Act → World → Prop} {S : World → Prop} {a : Act} {w : World} (hm : P.follows .mixedOrders = true)
    (hd : ∀ (j : Nat) (o : Oper) c, ops[j]? = some o → o.op ≠ .defer c) (hS : S w.drew)
    (h : S w.drew → wpAnyH P .any ops (OnlyN Q) S ops.size (Array.replicate ops.size false) a w.drew) : (Code.region id ops true).wpIn (Fence.wide.inRound l) n P Q a w :=
  wpIn_region_any hm (wpAny_in hd _ _ _ _ (wpAny_of_held _ _ _ _ (h hS)))
theorem noDefer {ops : Array Oper} (h : (ops.toList.all fun o => match o.op with | .defer _ => false | _ => true) = true) : ∀ (j : Nat) (o : Oper) c, ops[j]? = some o → o.op ≠ .defer c := fun j o c hj he => by
  have hm : o ∈ ops.toList := by
    rw [Array.mem_toList_iff]
    exact Array.mem_of_getElem? hj
  have := List.all_eq_true.1 h o hm
  rw [he] at this
  cases this
theorem wpListIn_append_run {F : Fence} {n : Nat} {P : Program} {ops : Array Oper} {rest : List Oper} {o : Oper} {a : Act} {w : World} {Q : Exit → Act → World → Prop}
    (hg : o.guard = none) (s x : Operand) (t : TypeId) (hop : o.op = Op.call { callee := Callee.builtin Builtin.append, args := #[s, x], argTypes := #[t, t] })
    (v1 v2 v' : Value) (w' : World) (hs : a.eval s = v1) (hx : a.eval x = v2) (hrun : (Builtin.append_ #[t, t] o.type #[v1, v2]).run P w = .ok v' w') (hK : wpListIn F n P ops Q rest (a.put o.dst v') w') :
    wpListIn F n P ops Q (o :: rest) a w := by
  refine wpListIn_plain hg fun K hK' => ?_
  unfold Oper.wpIn
  refine ⟨?_, ?_⟩
  · simp [Oper.about, hop, resolve, Target.leads, Sem.run_pure]
  · rw [Oper.semAt_plain F _ _ (by rw [hop]; intro c hc'; cases hc')]
    simp [execOp, hop, resolve, invoke, builtin, hs, hx, hrun, Result.andThen]
    exact hK' _ _ hK
end Go.Proofs.YtmpaliocfikifaaGreatDoor
