import Derived.Maps.Keyed
import Derived.DeepKeys4
import Derived.WideKeyEntry
import Derived.Test.YtmpaliocfikifaaDoorCW3
import Derived.Test.YtmpaliocfikifaaDoorCBL1
import Derived.Test.YtmpaliocfikifaaDoorCSP4
import Derived.Test.YtmpaliocfikifaaDoorCFN3
import Derived.Test.YtmpaliocfikifaaDoorCRX1
import Derived.Deep.CutRange
import Derived.Deep.CutBlock
namespace Go.Proofs.YtmpaliocfikifaaDoor
open Go.RowKit
open Go.WideMaps (KeyLaw)
open Go.ChangeMaps (setBlock)
namespace Bat
theorem rowSp : (67 : TypeId) < Tryd.prog.types.size := of_decide_eq_true (by kernel_rfl)
theorem wideSp : (match Tryd.prog.underlying 67 with | some (.array _ _) | some (.struct _) => true | _ => false) = true := by kernel_rfl
theorem keyAtSp : Tryd.prog.keyTypeAt 2 67 = true := by kernel_rfl
set_option maxRecDepth 1000000 in
theorem lawSp : KeyLaw Tryd.prog 67 := deep_law_laid laidOutT (m := 2) (by omega) rowSp keyAtSp wideSp
theorem undKn : Tryd.prog.underlying 61 = some (.map 67 65) := by kernel_rfl
theorem infoHs : (Tryd.prog.info? 65).map (fun i => (i.zero, i.size, i.bytes)) = some (some (.agg #[.string ⟨#[]⟩]), 1, 16) := by kernel_rfl
theorem zeroHs (w : World) : (zeroValue 65).run Tryd.prog w = .ok (.agg #[.string ⟨#[]⟩]) w := by
  obtain ⟨i0, hi, hz0, hz1, hz2⟩ := info_parts infoHs
  simp [zeroValue, typeInfo, hi, hz0]
theorem keyTyS : Tryd.prog.keyType 67 = true := by kernel_rfl
theorem cellsSpK : Tryd.prog.cellsOf 67 = 2 := by kernel_rfl
theorem undSp : ∃ f g : Field, Tryd.prog.underlying 67 = some (.struct #[f, g]) ∧ f.type = 3 ∧ g.type = 3 ∧ f.offset = 0 ∧ g.offset = 1 ∧ (f.name != "_") = true ∧ (g.name != "_") = true := by
  exact ⟨_, _, Tryd.underlying67, rfl, rfl, rfl, rfl, by decide, by decide⟩
theorem keySp {p : Int × Int} (h : InR p) : ∃ l, keyOf Tryd.prog 67 (kv p) = some l := by
  have h1 := wf64 h.1.1 h.1.2
  have h2 := wf64 h.2.1 h.2.2
  obtain ⟨f, g, hu, hf, hg, hfo, hgo, hfn, hgn⟩ := undSp
  have k1 : ∀ (n : Nat) (a : Int), (Lit.int .i64 a).wf = true → Tryd.prog.keyLits (n + 1) 3 [.int .i64 a] = some [.int .i64 a] := fun n a ha => by
    unfold Program.keyLits
    simp [ha]
  have hfm : (kv p).formed Tryd.prog 67 = true := by
    unfold kv Value.formed
    rw [hu]
    simp [cellsSpK]
  have h3 : Tryd.prog.keyLits (Tryd.prog.types.size + 1) 67 (kv p).cells.toList = some [.int .i64 p.1, .int .i64 p.2] := by
    have e : (kv p).cells.toList = [.int .i64 p.1, .int .i64 p.2] := rfl
    rw [typesT, e]
    unfold Program.keyLits
    rw [hu]
    simp [cellsSpK, cellsIT, hf, hg, hfo, hgo, hfn, hgn, k1 _ _ h1, k1 _ _ h2]
  refine ⟨.string (keyBytes [.int .i64 p.1, .int .i64 p.2]), ?_⟩
  unfold keyOf
  rw [hu]
  simp only [keyTyS, hfm, Bool.and_self, if_true, h3, Option.map_some]
/-- a span's value -/
def kn (s : Nat × Nat) : Value := kv ((s.1 : Int), (s.2 : Int))
def Lo (s : Nat × Nat) : Prop := s.1 ≤ 1099511627776 ∧ s.2 ≤ 1099511627776
theorem Lo.r {s : Nat × Nat} (h : Lo s) : InR ((s.1 : Int), (s.2 : Int)) := by unfold Lo at h; exact ⟨⟨by show _ ≤ (s.1 : Int); omega, by show (s.1 : Int) ≤ _; omega⟩, by show _ ≤ (s.2 : Int); omega, by show (s.2 : Int) ≤ _; omega⟩
theorem kn_inj {s t : Nat × Nat} (h : kn s = kn t) : s = t := by
  have := kv_inj h
  simp only [Prod.mk.injEq] at this
  exact Prod.ext (by omega) (by omega)
/-- a hash's value -/
def hv (x : List UInt8) : Value := .agg #[sv x]
theorem field_hash (s : ByteArray) (w : World) : (Instr.field 65 (.agg #[.string s]) 0).run Tryd.prog w = .ok (.string s) w := by
  simp [Instr.field, run_underlying Tryd.underlying65, asAgg, part, Result.andThen]
/-- what is known, in memory -/
structure Mk (w : World) (b : Nat) (f : Kn) : Prop where
  m : ∃ arr clock, w.heap[b]? = some (.map arr clock) ∧ (arr.toList.map (·.key)).Nodup ∧ (∀ e ∈ arr.toList, ∃ s h, e.key = kn s ∧ e.val = hv h ∧ f s = some h ∧ Lo s) ∧ ∀ s, f s ≠ none → ∃ e ∈ arr.toList, e.key = kn s
theorem Mk.heap {w w' : World} {b : Nat} {f : Kn} (h : Mk w b f) (hb : w'.heap[b]? = w.heap[b]?) : Mk w' b f := by
  obtain ⟨arr, clock, h1, h2⟩ := h.m
  exact ⟨arr, clock, hb.trans h1, h2⟩
theorem Mk.lt {w : World} {b : Nat} {f : Kn} (h : Mk w b f) : b < w.heap.size := by
  obtain ⟨arr, clock, h1, _⟩ := h.m
  exact (Array.getElem?_eq_some_iff.1 h1).1
theorem Mk.below {w w' : World} {b B : Nat} {f : Kn} (h : Mk w b f) (hb : Below B w w') (hB : b < B) : Mk w' b f := h.heap (hb.block b hB)
theorem Mk.new (w : World) : Mk (w.alloc (.map #[] 0)) w.heap.size (fun _ => none) :=
  ⟨#[], 0, (MapKept.heap_alloc w _).1, by simp, by simp, fun s hs => absurd rfl hs⟩
theorem Mk.keysOk {arr : Array MapEntry} {f : Kn} (h : ∀ e ∈ arr.toList, ∃ s h, e.key = kn s ∧ e.val = hv h ∧ f s = some h ∧ Lo s) : ∀ e ∈ arr.toList, ∃ l, keyOf Tryd.prog 67 e.key = some l := fun e he => by
  obtain ⟨s, x, h1, _, _, h4⟩ := h e he
  rw [h1]
  exact keySp h4.r
theorem Mk.find {w : World} {arr : Array MapEntry} {f : Kn} (h3 : ∀ e ∈ arr.toList, ∃ s h, e.key = kn s ∧ e.val = hv h ∧ f s = some h ∧ Lo s) (h4 : ∀ s, f s ≠ none → ∃ e ∈ arr.toList, e.key = kn s) {s : Nat × Nat} (hs : Lo s) :
    ((Instr.findKey 67 (kn s) arr.toList).run Tryd.prog w = .ok none w ∧ f s = none ∧ ∀ e ∈ arr.toList, e.key ≠ kn s) ∨
    ∃ j e x, (Instr.findKey 67 (kn s) arr.toList).run Tryd.prog w = .ok (some (j, hv x)) w ∧ f s = some x ∧ arr.toList[j]? = some e ∧ e.key = kn s := by
  obtain ⟨l, hl⟩ := keySp hs.r
  rcases lawSp.find w hl arr.toList (Mk.keysOk h3) with ⟨f1, f2⟩ | ⟨j, e0, f1, f2, f3⟩
  · refine .inl ⟨f1, ?_, f2⟩
    cases e : f s with
    | none => rfl
    | some x =>
      obtain ⟨e1, he, hk⟩ := h4 s (by rw [e]; simp)
      exact absurd hk (f2 e1 he)
  · obtain ⟨t, x, g1, g2, g3, g4⟩ := h3 e0 (List.mem_of_getElem? f2)
    have : t = s := kn_inj (g1.symm.trans f3)
    subst this
    rw [g2] at f1
    exact .inr ⟨j, e0, x, f1, g3, f2, f3⟩
/-- k[s], that is known -/
theorem Mk.get {w : World} {b : Nat} {f : Kn} (h : Mk w b f) {s : Nat × Nat} (hs : Lo s) {x : List UInt8} (hx : f s = some x) : (Instr.lookup 61 (.map (some b)) (.agg #[.int .i64 (s.1 : Int), .int .i64 (s.2 : Int)]) false).run Tryd.prog w = .ok (.agg #[sv x]) w := by
  obtain ⟨arr, clock, hb, h2, h3, h4⟩ := h.m
  obtain ⟨l, hl⟩ := keySp hs.r
  have hc := lawSp.check w arr.isEmpty hl
  simp only [kv] at hc
  rcases Mk.find (w := w) h3 h4 hs with ⟨f1, f2, _⟩ | ⟨j, e, y, f1, f2, _⟩
  · rw [hx] at f2; cases f2
  · rw [hx] at f2
    cases f2
    simp only [kn, kv, hv] at f1
    simp [Instr.lookup, run_underlying undKn, MapKept.run_getObj_map hb, hc, f1, Result.andThen]
/-- _, ok := k[s] -/
theorem Mk.ok {w : World} {b : Nat} {f : Kn} (h : Mk w b f) {s : Nat × Nat} (hs : Lo s) : ∃ v : ByteArray, (Instr.lookup 61 (.map (some b)) (.agg #[.int .i64 (s.1 : Int), .int .i64 (s.2 : Int)]) true).run Tryd.prog w = .ok (.tuple #[.agg #[.string v], .bool (f s).isSome]) w := by
  obtain ⟨arr, clock, hb, h2, h3, h4⟩ := h.m
  obtain ⟨l, hl⟩ := keySp hs.r
  have hc := lawSp.check w arr.isEmpty hl
  simp only [kv] at hc
  rcases Mk.find (w := w) h3 h4 hs with ⟨f1, f2, _⟩ | ⟨j, e, y, f1, f2, _⟩
  · rw [f2]
    refine ⟨⟨#[]⟩, ?_⟩
    simp only [kn, kv] at f1
    simp [Instr.lookup, run_underlying undKn, MapKept.run_getObj_map hb, hc, f1, zeroHs w, Result.andThen]
  · rw [f2]
    refine ⟨⟨y.toArray⟩, ?_⟩
    simp only [kn, kv, hv] at f1
    simp [Instr.lookup, run_underlying undKn, MapKept.run_getObj_map hb, hc, f1, Result.andThen, sv]
/-- k[s] = x -/
theorem Mk.put {w : World} {b : Nat} {f : Kn} (h : Mk w b f) {s : Nat × Nat} (hs : Lo s) (x : List UInt8) :
    ∃ w', (Instr.mapUpdate 61 (.map (some b)) (.agg #[.int .i64 (s.1 : Int), .int .i64 (s.2 : Int)]) (.agg #[sv x])).run Tryd.prog w = .ok () w' ∧ Mk w' b (upd f s x) ∧ But b w w' ∧ w'.heap.size = w.heap.size := by
  obtain ⟨arr, clock, hb, h2, h3, h4⟩ := h.m
  obtain ⟨l, hl⟩ := keySp hs.r
  have hc := lawSp.check w false hl
  rcases Mk.find (w := w) h3 h4 hs with ⟨f1, f2, f3⟩ | ⟨j, e0, y, f1, f2, f3, f4⟩
  · refine ⟨setBlock w b (.map (arr.push ⟨kn s, hv x, clock⟩) (clock + 1)), ?_, ⟨_, _, setBlock_at hb, ?_, ?_, ?_⟩, (But.refl b w).setBlock _, by simp [setBlock]⟩
    · simp only [kn, kv] at f1
      simp only [kv] at hc
      simp [Instr.mapUpdate, run_underlying undKn, MapKept.run_getObj_map hb, hc, f1, MapKept.run_setObj_map _ hb, setBlock, kn, kv, hv]
    · simp only [Array.toList_push, List.map_append, List.map_cons, List.map_nil]
      refine List.nodup_append.2 ⟨h2, by simp, fun a ha c hc' e1 => ?_⟩
      simp only [List.mem_singleton] at hc'
      obtain ⟨e, he, rfl⟩ := List.mem_map.1 ha
      exact f3 e he (e1.trans hc')
    · intro e he
      rw [Array.toList_push, List.mem_append, List.mem_singleton] at he
      rcases he with he | rfl
      · obtain ⟨t, z, g1, g2, g3, g4⟩ := h3 e he
        refine ⟨t, z, g1, g2, ?_, g4⟩
        unfold upd
        rw [if_neg (fun q => f3 e he (by rw [g1, q]))]
        exact g3
      · exact ⟨s, x, rfl, rfl, by unfold upd; rw [if_pos rfl], hs⟩
    · intro t ht
      unfold upd at ht
      by_cases q : t = s
      · subst q
        exact ⟨⟨kn t, hv x, clock⟩, by simp, rfl⟩
      · rw [if_neg q] at ht
        obtain ⟨e, he, hk⟩ := h4 t ht
        exact ⟨e, by simp [he], hk⟩
  · have hj : arr[j]? = some e0 := by simpa using f3
    have hlist : (arr.modify j (fun e => { e with key := kn s, val := hv x })).toList = arr.toList.set j ⟨kn s, hv x, e0.born⟩ := by
      rw [Array.toList_modify, ChangeMaps.modify_eq_set _ _ _ _ f3]
    have hkeys : (arr.toList.set j ⟨kn s, hv x, e0.born⟩).map (·.key) = arr.toList.map (·.key) := by
      rw [List.map_set]
      refine WideElems.set_self _ _ _ ?_
      rw [List.getElem?_map, f3]
      simp [f4]
    refine ⟨setBlock w b (.map (arr.modify j (fun e => { e with key := kn s, val := hv x })) clock), ?_, ⟨_, _, setBlock_at hb, ?_, ?_, ?_⟩, (But.refl b w).setBlock _, by simp [setBlock]⟩
    · have hst := lawSp.stays w hl
      simp only [kn, kv] at f1 f4
      simp only [kv] at hc hst
      simp [Instr.mapUpdate, run_underlying undKn, MapKept.run_getObj_map hb, hc, f1, hj, f4, hst, MapKept.run_setObj_map _ hb, Result.andThen, setBlock, kn, kv, hv]
    · rw [hlist, hkeys]; exact h2
    · intro e he
      rw [hlist] at he
      obtain ⟨k, hk, hke⟩ := List.mem_iff_getElem.1 he
      by_cases q : j = k
      · subst q
        rw [List.getElem_set_self] at hke
        subst hke
        exact ⟨s, x, rfl, rfl, by unfold upd; rw [if_pos rfl], hs⟩
      · rw [List.getElem_set_ne q] at hke
        rw [List.length_set] at hk
        have hm : e ∈ arr.toList := by rw [← hke]; exact List.getElem_mem hk
        obtain ⟨t, z, g1, g2, g3, g4⟩ := h3 e hm
        refine ⟨t, z, g1, g2, ?_, g4⟩
        unfold upd
        rw [if_neg (fun q2 => ?_)]
        · exact g3
        · subst q2
          have hjl := (List.getElem?_eq_some_iff.1 f3).1
          have e2 := (List.getElem?_eq_some_iff.1 f3).2
          have := (List.pairwise_iff_getElem.1 h2)
          rcases Nat.lt_or_gt_of_ne q with c | c
          · exact this j k (by simpa using hjl) (by simpa using hk) c (by rw [List.getElem_map, List.getElem_map, e2, hke, f4, g1])
          · exact this k j (by simpa using hk) (by simpa using hjl) c (by rw [List.getElem_map, List.getElem_map, e2, hke, f4, g1])
    · intro t ht
      rw [hlist]
      have hex : kn t ∈ (arr.toList.set j ⟨kn s, hv x, e0.born⟩).map (·.key) := by
        rw [hkeys]
        unfold upd at ht
        by_cases q : t = s
        · subst q
          exact List.mem_map.2 ⟨e0, List.mem_of_getElem? f3, f4⟩
        · rw [if_neg q] at ht
          obtain ⟨e, he, hk⟩ := h4 t ht
          exact List.mem_map.2 ⟨e, he, hk⟩
      obtain ⟨e, he, hk⟩ := List.mem_map.1 hex
      exact ⟨e, he, hk⟩
theorem But.keep12 {b : Nat} {w w' : World} (h : But b w w') : Keep (fun k => k = b) w w' := ⟨h.os, h.tape, h.output, h.size, fun k hk hs => h.block k hk hs⟩
theorem Mk.keep {w w' : World} {b : Nat} {f : Kn} {S : Nat → Prop} (h : Mk w b f) (hk : Keep S w w') (hs : ¬ S b) : Mk w' b f := h.heap (hk.block b h.lt hs)
theorem node_ok {a c : List UInt8} (ha : a.length = 32) (hc : c.length = 32) : nodeOf a c = (Tree.nd a c, 0) := by unfold nodeOf Tree.nd; rw [if_pos ⟨ha, hc⟩, if_pos ⟨ha, hc⟩]
/-- all that is known has 32 bytes -/
def W32 (f : Kn) : Prop := ∀ s h, f s = some h → h.length = 32
theorem W32.upd {f : Kn} (h : W32 f) (s : Nat × Nat) {x : List UInt8} (hx : x.length = 32) : W32 (Bat.upd f s x) := fun t y ht => by
  unfold Bat.upd at ht
  split at ht
  · rw [← Option.some.inj ht]; exact hx
  · exact h t y ht
theorem keep_below {S : Nat → Prop} {w w' : World} {B : Nat} (h : Keep S w w') (hB : B ≤ w.heap.size) (hS : ∀ k, S k → B ≤ k) : Below B w w' :=
  ⟨h.os, h.tape, h.output, h.size, fun k hk => h.block k (by omega) fun e => by have := hS k e; omega⟩
theorem tabs_keep {S : Nat → Prop} {w w' : World} (T : Tabs w) (hk : Keep S w w') (hS : ∀ k, S k → 4 ≤ k) : Tabs w' := T.below (keep_below hk (B := 4) T.lt hS) (Nat.le_refl _)
end Bat
end Go.Proofs.YtmpaliocfikifaaDoor

namespace Go.Proofs.YtmpaliocfikifaaDoor
open Go.RowKit Go.Shelf
namespace Bat
set_option maxRecDepth 100000 in
set_option maxHeartbeats 4000000 in
theorem join_at {w : World} {b : Nat} {f : Kn} (M : Mk w b f) (T : Tabs w) {x0 x1 y0 y1 l0 l1 r0 r1 : Nat} (hl : Lo (l0, l1)) (hr : Lo (r0, r1)) {q : Bool} (hq : decide ((y0 : Int) < (x0 : Int)) = q) (hc : Hid (if q = true then l0 = y0 ∧ l1 = y1 ∧ r0 = x0 ∧ r1 = x1 else l0 = x0 ∧ l1 = x1 ∧ r0 = y0 ∧ r1 = y1)) {a c h : List UInt8} (fl : f (l0, l1) = some a) (fr : f (r0, r1) = some c) (hn : Hid (nodeOf a c = (h, 0))) :
    Calls Tryd.prog 74 #[.map (some b), sg x0 x1, sg y0 y1] w fun e w' => e = .returned (sg l0 r1) ∧ Mk w' b (upd f (l0, r1) h) ∧ But b w w' := by
  have hbs := M.lt
  have S0 := SpI.new w (x0 : Int) (x1 : Int)
  have B0 := (Below.refl w.heap.size w).alloc (Nat.le_refl _) (.cells #[Value.int .i64 (x0 : Int), .int .i64 (x1 : Int)] 67)
  go_enter Tryd.func74, Tryd.ntmps74
  go_upto_region 1 with fail
  obtain ⟨w3, hw3⟩ : ∃ w3, Hid ((((w.alloc (.cells #[.int .i64 (x0 : Int), .int .i64 (x1 : Int)] 67)).alloc (.cells #[.int .i64 (y0 : Int), .int .i64 (y1 : Int)] 67)).alloc (.cells #[.int .i64 0, .int .i64 0] 67)) = w3) := ⟨_, rfl⟩
  rw [hw3.out]
  have B3 : Hid (Below w.heap.size w w3) := by unfold Hid; rw [← hw3.out]; exact (B0.alloc (by rw [size_alloc]; omega) _).alloc (by rw [size_alloc, size_alloc]; omega) _
  have z3 : w3.heap.size = w.heap.size + 3 := by rw [← hw3.out]; simp
  have R0 : Hid (SpI w3 w.heap.size x0 x1) := by unfold Hid; rw [← hw3.out]; exact (S0.below ((Below.refl _ _).alloc (Nat.le_refl _) _)).below ((Below.refl _ _).alloc (Nat.le_refl _) _)
  have R1 : Hid (SpI w3 (w.heap.size + 1) y0 y1) := by
    unfold Hid; rw [← hw3.out]
    have := SpI.new (w.alloc (.cells #[.int .i64 (x0 : Int), .int .i64 (x1 : Int)] 67)) y0 y1
    rw [size_alloc] at this
    exact this.below ((Below.refl _ _).alloc (Nat.le_refl _) _)
  have R2 : Hid (SpI w3 (w.heap.size + 1 + 1) 0 0) := by
    unfold Hid; rw [← hw3.out]
    have := SpI.new ((w.alloc (.cells #[.int .i64 (x0 : Int), .int .i64 (x1 : Int)] 67)).alloc (.cells #[.int .i64 (y0 : Int), .int .i64 (y1 : Int)] 67)) 0 0
    rw [size_alloc, size_alloc] at this
    exact this
  have M3 := hid (M.below B3.out hbs)
  have T3 := hid (T.below B3.out T.lt)
  have hT := T.lt
  clear hw3 S0 B0 M T
  go_cut [7, 8] from 12 to 13 (fun u v w' => ∃ gl gr : Nat, u = .pointer (some ⟨gl, 0, none⟩) ∧ v = .pointer (some ⟨gr, 0, none⟩) ∧ gl ≠ gr ∧ w3.heap.size ≤ gl ∧ w3.heap.size ≤ gr ∧ Hid (SpI w' gl x0 x1) ∧ Hid (SpI w' gr y0 y1) ∧ Hid (Below w3.heap.size w3 w'))
  case first =>
    have c0 := R0.out.c0
    have c1 := R0.out.c1
    have d0 := R1.out.c0
    have d1 := R1.out.c1
    go_region
    all_goals go_wp2
    all_goals go_meet
    · refine ⟨_, _, rfl, rfl, by omega, by omega, by omega, ?_, ?_, ?_⟩
      · have := (SpI.new w3 (x0 : Int) (x1 : Int)).below ((Below.refl _ _).alloc (Nat.le_refl _) (.cells #[Value.int .i64 (y0 : Int), .int .i64 (y1 : Int)] 67))
        rw [z3] at this
        exact this
      · have := SpI.new (w3.alloc (.cells #[Value.int .i64 (x0 : Int), .int .i64 (x1 : Int)] 67)) (y0 : Int) (y1 : Int)
        rw [size_alloc, z3] at this
        exact this
      · exact (((Below.refl _ _).alloc (Nat.le_refl _) _).alloc (by rw [size_alloc]; omega) _).drew
    · refine ⟨_, _, rfl, rfl, by omega, by omega, by omega, ?_, ?_, ?_⟩
      · have := SpI.new (w3.alloc (.cells #[Value.int .i64 (y0 : Int), .int .i64 (y1 : Int)] 67)) (x0 : Int) (x1 : Int)
        rw [size_alloc, z3] at this
        exact this
      · have := (SpI.new w3 (y0 : Int) (y1 : Int)).below ((Below.refl _ _).alloc (Nat.le_refl _) (.cells #[Value.int .i64 (x0 : Int), .int .i64 (x1 : Int)] 67))
        rw [z3] at this
        exact this
      · exact (((Below.refl _ _).alloc (Nat.le_refl _) _).alloc (by rw [size_alloc]; omega) _).drew
  case rest =>
  obtain ⟨gl, gr, rfl, rfl, hne, h1, h2, HL, HR, HB⟩ := hcut
  have r0' := R0.out.below HB.out
  have r1' := R1.out.below HB.out
  have a0 := r0'.c0
  have a1 := r0'.c1
  have e0 := r1'.c0
  have e1 := r1'.c1
  have S2 := hid (R2.out.below HB.out)
  clear r0' r1' R0 R1 R2
  go_upto_if 18 with fail
  go_cut [] from 14 to 20 (fun w' => Hid (SpI w' gl l0 l1) ∧ Hid (SpI w' gr r0 r1) ∧ Hid (SpI w' (w.heap.size + 1 + 1) 0 0) ∧ Hid (Below w3.heap.size w3 w'))
  case first =>
    cases q
    · have hq := of_decide_eq_false hq
      obtain ⟨rfl, rfl, rfl, rfl⟩ := hc.out
      go_wp2
      go_meet
      exact ⟨HL, HR, S2, HB⟩
    · have hq := of_decide_eq_true hq
      obtain ⟨rfl, rfl, rfl, rfl⟩ := hc.out
      have u0 := HL.out.c0
      have u1 := HL.out.c1
      have v0 := HR.out.c0
      have v1 := HR.out.c1
      have p0 := HL.out.f0
      have p1 := HL.out.f1
      have q0 := HR.out.f0
      have q1 := HR.out.f1
      go_wp2
      go_region
      all_goals go_wp2
      all_goals go_meet
      have k1 := HL.out.two (l0 : Int) (l1 : Int)
      have k2 := (HR.out.far gl 0 (.int .i64 (l0 : Int)) (by omega)).far gl 1 (.int .i64 (l1 : Int)) (by omega)
      have k3 := k2.two (r0 : Int) (r1 : Int)
      have k4 := (k1.far gr 0 (.int .i64 (r0 : Int)) hne).far gr 1 (.int .i64 (r1 : Int)) hne
      have k5 := (((S2.out.far gl 0 (.int .i64 (l0 : Int)) (by omega)).far gl 1 (.int .i64 (l1 : Int)) (by omega)).far gr 0 (.int .i64 (r0 : Int)) (by omega)).far gr 1 (.int .i64 (r1 : Int)) (by omega)
      refine ⟨k4, k3, k5, ?_⟩
      exact (Below.setCell (p := ⟨gr, 1, none⟩) (Below.setCell (p := ⟨gr, 0, none⟩) (Below.setCell (p := ⟨gl, 1, none⟩) (Below.setCell (p := ⟨gl, 0, none⟩) HB.out h1 _) h1 _) h2 _) h2 _).drew
  case rest =>
  clear HL HR HB S2 a0 a1 e0 e1
  obtain ⟨HL, HR, S2, HB⟩ := hcut
  have u0 := HL.out.c0
  have u1 := HL.out.c1
  have v0 := HR.out.c0
  have v1 := HR.out.c1
  have hsz := HB.out.size
  have bb := (Below.refl wc.heap.size wc).alloc (Nat.le_refl _) (.cells #[.int .i64 (l0 : Int), .int .i64 (r1 : Int)] 67)
  have L5 := hid (HL.out.below bb)
  have R5 := hid (HR.out.below bb)
  have S5 := hid (S2.out.below bb)
  have D5 := hid (SpI.new wc (l0 : Int) (r1 : Int))
  have B5 := hid (HB.out.trans (bb.mono hsz))
  have M5 := hid (M3.out.below B5.out M3.out.lt)
  have T5 := hid (T3.out.below B5.out T3.out.lt)
  clear bb HL HR S2 M3 T3
  go_wp2
  have z5 : (wc.alloc (.cells #[.int .i64 (l0 : Int), .int .i64 (r1 : Int)] 67)).heap.size = wc.heap.size + 1 := by simp
  generalize wc.alloc (.cells #[.int .i64 (l0 : Int), .int .i64 (r1 : Int)] 67) = w5 at *
  have fact : ∀ w', Mk w' b f → SpI w' gl l0 l1 → SpI w' gr r0 r1 → w'.cell? ⟨gl, 0, none⟩ = some (.int .i64 (l0 : Int)) ∧ w'.cell? ⟨gl, 1, none⟩ = some (.int .i64 (l1 : Int)) ∧ w'.cell? ⟨gr, 0, none⟩ = some (.int .i64 (r0 : Int)) ∧ w'.cell? ⟨gr, 1, none⟩ = some (.int .i64 (r1 : Int)) ∧
      (Instr.lookup 61 (.map (some b)) (.agg #[.int .i64 (l0 : Int), .int .i64 (l1 : Int)]) false).run Tryd.prog w' = .ok (.agg #[.string ⟨a.toArray⟩]) w' ∧ (Instr.lookup 61 (.map (some b)) (.agg #[.int .i64 (r0 : Int), .int .i64 (r1 : Int)]) false).run Tryd.prog w' = .ok (.agg #[.string ⟨c.toArray⟩]) w' := fun w' m l r =>
    ⟨l.c0, l.c1, r.c0, r.c1, m.get hl fl, m.get hr fr⟩
  have hf1 := field_hash ⟨a.toArray⟩
  have hf2 := field_hash ⟨c.toArray⟩
  have x5 := fact w5.drew (M5.out.heap rfl) L5.out R5.out
  have i1 := node_at hn w5.drew (T5.out.below ((Below.refl _ w5).drew) T5.out.lt)
  rw [show sv a = Value.string ⟨a.toArray⟩ from rfl, show sv c = Value.string ⟨c.toArray⟩ from rfl, show sv h = Value.string ⟨h.toArray⟩ from rfl] at i1
  go_region_held3 (fun w' => w'.cell? ⟨gl, 0, none⟩ = some (.int .i64 (l0 : Int)) ∧ w'.cell? ⟨gl, 1, none⟩ = some (.int .i64 (l1 : Int)) ∧ w'.cell? ⟨gr, 0, none⟩ = some (.int .i64 (r0 : Int)) ∧ w'.cell? ⟨gr, 1, none⟩ = some (.int .i64 (r1 : Int)) ∧
      (Instr.lookup 61 (.map (some b)) (.agg #[.int .i64 (l0 : Int), .int .i64 (l1 : Int)]) false).run Tryd.prog w' = .ok (.agg #[.string ⟨a.toArray⟩]) w' ∧ (Instr.lookup 61 (.map (some b)) (.agg #[.int .i64 (r0 : Int), .int .i64 (r1 : Int)]) false).run Tryd.prog w' = .ok (.agg #[.string ⟨c.toArray⟩]) w') (first | exact x6 | exact x5) (first | (go_at_call 67; refine i1.mono ?_; rintro e w6 ⟨rfl, h6⟩; have B6 := hid (drewBelow8 h6); have L6 := hid (L5.out.below B6.out); have R6 := hid (R5.out.below B6.out); have x6 := fact w6 (M5.out.below B6.out M5.out.lt) L6.out R6.out))
  all_goals
    have M6 := M5.out.below B6.out M5.out.lt
    obtain ⟨w7, hup, M7, bt7, sz7⟩ := M6.put (s := (l0, r1)) (show Lo (l0, r1) from ⟨hl.1, hr.2⟩) h
    rw [show sv h = Value.string ⟨h.toArray⟩ from rfl] at hup
    have s5 := B6.out.size
    have D7 := (But.keep12 bt7).block wc.heap.size (by omega) (by omega)
    have D7' : Hid (SpI w7 wc.heap.size l0 r1) := D7.trans (D5.out.below B6.out)
    have S7 : Hid (SpI w7 (w.heap.size + 1 + 1) 0 0) := ((But.keep12 bt7).block (w.heap.size + 1 + 1) (by omega) (by omega)).trans (S5.out.below B6.out)
    have D6 := D5.out.below B6.out
    have y0 := D6.c0
    have y1 := D6.c1
    clear D6
    have d0 := D7'.out.c0
    have d1 := D7'.out.c1
    have t0 := S7.out.f0
    have t1 := S7.out.f1
    have t2 := S7.out.c0
    have t3 := S7.out.c1
    have HM7 := hid M7
    have BT := hid ((But.ofBelow (b := b) (B3.out.trans ((B5.out.mono B3.out.size).trans (B6.out.mono (by have := B3.out.size; omega))))).trans bt7)
    clear x5 x6 i1 h6 fact M6 D7 M7 bt7 u0 u1 v0 v1 hf1 hf2
    go_wp2
    have Q := S7.out.two (l0 : Int) (r1 : Int)
    refine bodyPost_ret (v := sg l0 r1) (results_cell_row rfl _ _ (w.heap.size + 1 + 1) 67 _ (0, 0) _ rfl Q Tryd.underlying67 rfl sizeSp) rfl ⟨rfl, ?_, ?_⟩
    · refine HM7.out.heap ?_
      exact (Below.heap_setCell _ _ _ b (by show b ≠ w.heap.size + 1 + 1; omega)).trans (Below.heap_setCell _ _ _ b (by show b ≠ w.heap.size + 1 + 1; omega))
    · have b1 : Below w.heap.size w7 ((w7.setCell ⟨w.heap.size + 1 + 1, 0, none⟩ (.int .i64 (l0 : Int))).setCell ⟨w.heap.size + 1 + 1, 1, none⟩ (.int .i64 (r1 : Int))) := Below.setCell (p := ⟨w.heap.size + 1 + 1, 1, none⟩) (Below.setCell (p := ⟨w.heap.size + 1 + 1, 0, none⟩) (Below.refl _ _) (by show w.heap.size ≤ w.heap.size + 1 + 1; omega) _) (by show w.heap.size ≤ w.heap.size + 1 + 1; omega) _
      exact ⟨b1.os.trans BT.out.os, b1.tape.trans BT.out.tape, b1.output.trans BT.out.output, Nat.le_trans BT.out.size b1.size, fun k hk hne => (b1.block k hk).trans (BT.out.block k hk hne)⟩
end Bat
end Go.Proofs.YtmpaliocfikifaaDoor
