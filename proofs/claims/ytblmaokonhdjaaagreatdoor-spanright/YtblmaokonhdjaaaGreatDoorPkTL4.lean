import Derived.Test.YtblmaokonhdjaaaGreatDoorPkTL1
import Derived.Test.YtblmaokonhdjaaaGreatDoorPkW3
import Derived.Test.YtblmaokonhdjaaaGreatDoorPkFN6
import Derived.Test.YtblmaokonhdjaaaGreatDoorPkO9
import Derived.Test.YtblmaokonhdjaaaGreatDoorPkO28
import Derived.Deep.RegionHeld3
import Derived.Laws.ResultCell
namespace Go.Proofs.YtblmaokonhdjaaaGreatDoor
open Go.RowKit
open Go.WideMaps (KeyLaw)
open Go.ChangeMaps (setBlock)
theorem Mp.keysOk {arr : Array MapEntry} {es : List ((Int × Int) × Value)} (h : arr.toList.map (fun e => (e.key, e.val)) = es.map (fun x => (kv x.1, x.2))) (hr : ∀ x ∈ es, InR x.1) : ∀ e ∈ arr.toList, ∃ l, keyOf Tryz.prog 250 e.key = some l := fun e he => by
  have h1 : (e.key, e.val) ∈ es.map (fun x => (kv x.1, x.2)) := by rw [← h]; exact List.mem_map.2 ⟨e, he, rfl⟩
  obtain ⟨x, hx, hxe⟩ := List.mem_map.1 h1
  injection hxe with h2 h3
  rw [← h2]
  exact keyPl (hr x hx)
theorem Mp.memE {arr : Array MapEntry} {es : List ((Int × Int) × Value)} {p : Int × Int} (h : arr.toList.map (fun e => (e.key, e.val)) = es.map (fun x => (kv x.1, x.2))) {e : MapEntry} (he : e ∈ arr.toList) (hk : e.key = kv p) : (p, e.val) ∈ es := by
  have h1 : (e.key, e.val) ∈ es.map (fun x => (kv x.1, x.2)) := by rw [← h]; exact List.mem_map.2 ⟨e, he, rfl⟩
  obtain ⟨x, hx, hxe⟩ := List.mem_map.1 h1
  injection hxe with h2 h3
  have := kv_inj (h2.trans hk)
  rw [← this, ← h3]
  exact hx
theorem Mp.notE {arr : Array MapEntry} {es : List ((Int × Int) × Value)} {p : Int × Int} (h : arr.toList.map (fun e => (e.key, e.val)) = es.map (fun x => (kv x.1, x.2))) (hk : ∀ e ∈ arr.toList, e.key ≠ kv p) : ¬ has es p := fun ⟨v, hv⟩ => by
  have h1 : (kv p, v) ∈ arr.toList.map (fun e => (e.key, e.val)) := by rw [h]; exact List.mem_map.2 ⟨(p, v), hv, rfl⟩
  obtain ⟨e, he, hxe⟩ := List.mem_map.1 h1
  injection hxe with h2 h3
  exact hk e he h2
/-- m[p] -/
theorem Mp.lookup {w : World} {b : Nat} {es : List ((Int × Int) × Value)} (h : Mp w b es) {p : Int × Int} (hp : InR p) : (Instr.lookup 156 (.map (some b)) (kv p) false).run Tryz.prog w = .ok (look es p) w := by
  obtain ⟨arr, clock, hb, h1, h2, h3, h4, h5⟩ := h
  obtain ⟨l, hl⟩ := keyPl hp
  rcases lawPl.find w hl arr.toList (Mp.keysOk h3 h5) with ⟨f1, f2⟩ | ⟨j, e0, f1, f2, f3⟩
  · rw [look_none (Mp.notE h3 f2)]
    simp [Instr.lookup, run_underlying undMp, MapKept.run_getObj_map hb, lawPl.check w _ hl, f1, zeroSl w, Result.andThen]
  · rw [look_mem h4 (Mp.memE h3 (List.mem_of_getElem? f2) f3)]
    simp [Instr.lookup, run_underlying undMp, MapKept.run_getObj_map hb, lawPl.check w _ hl, f1, Result.andThen]
theorem But.setBlock {b : Nat} {w w' : World} (h : But b w w') (o : Obj) : But b w (setBlock w' b o) :=
  ⟨h.os, h.tape, h.output, by simp only [Go.ChangeMaps.setBlock, Array.size_setIfInBounds]; exact h.size, fun k hk hne => by
    have : (Go.ChangeMaps.setBlock w' b o).heap[k]? = w'.heap[k]? := by simp only [Go.ChangeMaps.setBlock]; rw [Array.getElem?_setIfInBounds, if_neg (fun e => hne e.symm)]
    exact this.trans (h.block k hk hne)⟩
theorem setBlock_at {w : World} {b : Nat} {o o' : Obj} (h : w.heap[b]? = some o) : (setBlock w b o').heap[b]? = some o' := by
  have hlt := (Array.getElem?_eq_some_iff.1 h).1
  simp only [Go.ChangeMaps.setBlock]
  rw [Array.getElem?_setIfInBounds, if_pos rfl, if_pos hlt]
/-- m[p] = f(m[p]): the entry, and the store behind it -/
theorem Mp.entry {w : World} {b : Nat} {es : List ((Int × Int) × Value)} (h : Mp w b es) {p : Int × Int} (hp : InR p) :
    ∃ (st : Nat) (w1 : World), (Instr.mapEntry 156 (.map (some b)) (kv p)).run Tryz.prog w = .ok (.tuple #[look es p, goInt st]) w1 ∧ But b w w1 ∧ w1.heap.size = w.heap.size ∧ b < w.heap.size ∧
      ∀ (w2 : World) (val : Value), w2.heap[b]? = w1.heap[b]? → ∃ w3, (Instr.entryStore 156 (.map (some b)) (goInt st) val).run Tryz.prog w2 = .ok () w3 ∧ Mp w3 b (put es p val) ∧ But b w2 w3 ∧ w3.heap.size = w2.heap.size := by
  obtain ⟨arr, clock, hb, h1, h2, h3, h4, h5⟩ := h
  obtain ⟨l, hl⟩ := keyPl hp
  have hlt := (Array.getElem?_eq_some_iff.1 hb).1
  rcases lawPl.find w hl arr.toList (Mp.keysOk h3 h5) with ⟨f1, f2⟩ | ⟨j, e0, f1, f2, f3⟩
  · have hno := Mp.notE h3 f2
    rw [look_none hno]
    refine ⟨clock, setBlock w b (.map (arr.push ⟨kv p, .slice none 0 0, clock⟩) (clock + 1)), ?_, (But.refl b w).setBlock _, by simp [setBlock], hlt, fun w2 val hw2 => ?_⟩
    · simp [Instr.mapEntry, run_underlying undMp, MapKept.run_getObj_map hb, lawPl.check w false hl, f1, MapKept.run_setObj_map _ hb, Result.andThen, setBlock]
    · rw [setBlock_at hb] at hw2
      have hidx : (arr.push ⟨kv p, .slice none 0 0, clock⟩).findIdx? (fun e => ((e.born : Nat) : Int) == ((clock : Nat) : Int)) = some arr.size := by
        rw [WideElems.findIdx_arr]
        have := WideElems.findIdx_born (l := (arr.push ⟨kv p, .slice none 0 0, clock⟩).toList) (j := arr.size) (e0 := ⟨kv p, .slice none 0 0, clock⟩) (by
          simp only [Array.toList_push, List.map_append, List.map_cons, List.map_nil]
          refine List.nodup_append.2 ⟨h2, by simp, fun a ha c hc e1 => ?_⟩
          simp only [List.mem_singleton] at hc
          obtain ⟨x, hx, rfl⟩ := List.mem_map.1 ha
          have := h1 x hx
          omega) (by simp)
        exact this
      have hmod : (arr.push ⟨kv p, .slice none 0 0, clock⟩).modify arr.size (fun e => { e with val := val }) = arr.push ⟨kv p, val, clock⟩ := by
        apply Array.ext'
        rw [Array.toList_modify, Array.toList_push, Array.toList_push, ← Array.length_toList, WideElems.modify_last]
      refine ⟨setBlock w2 b (.map (arr.push ⟨kv p, val, clock⟩) (clock + 1)), ?_, ⟨_, _, setBlock_at hw2, ?_, ?_, ?_, put_keys h4, ?_⟩, (But.refl b w2).setBlock _, by simp [setBlock]⟩
      · simp [Instr.entryStore, MapKept.run_getObj_map hw2, asInt, asIntOf, goInt, hidx, hmod, MapKept.run_setObj_map _ hw2, Result.andThen, setBlock]
      · intro x hx
        rw [Array.toList_push, List.mem_append, List.mem_singleton] at hx
        rcases hx with hx | rfl
        · have := h1 x hx; omega
        · simp
      · simp only [Array.toList_push, List.map_append, List.map_cons, List.map_nil]
        refine List.nodup_append.2 ⟨h2, by simp, fun a ha c hc e1 => ?_⟩
        simp only [List.mem_singleton] at hc
        obtain ⟨x, hx, rfl⟩ := List.mem_map.1 ha
        have := h1 x hx
        omega
      · rw [put_new hno]
        simp only [Array.toList_push, List.map_append, List.map_cons, List.map_nil, h3]
      · intro x hx
        rcases mem_put.1 hx with ⟨h6, _⟩ | ⟨_, h6⟩
        · rw [h6]; exact hp
        · exact h5 x h6
  · have hmem := Mp.memE h3 (List.mem_of_getElem? f2) f3
    have hhas : has es p := ⟨_, hmem⟩
    rw [look_mem h4 hmem]
    have hj : arr[j]? = some e0 := by simpa using f2
    have hsame : arr.modify j (fun e => { e with key := kv p }) = arr := by
      apply Array.ext'
      rw [Array.toList_modify, ChangeMaps.modify_eq_set _ _ _ _ f2]
      have : ({ e0 with key := kv p } : MapEntry) = e0 := by rw [← f3]
      rw [this]
      exact WideElems.set_self _ _ _ f2
    refine ⟨e0.born, setBlock w b (.map arr clock), ?_, (But.refl b w).setBlock _, by simp [setBlock], hlt, fun w2 val hw2 => ?_⟩
    · simp [Instr.mapEntry, run_underlying undMp, MapKept.run_getObj_map hb, lawPl.check w false hl, f1, hj, f3, lawPl.stays w hl, hsame, MapKept.run_setObj_map _ hb, Result.andThen, setBlock]
    · rw [setBlock_at hb] at hw2
      have hidx : arr.findIdx? (fun e => ((e.born : Nat) : Int) == ((e0.born : Nat) : Int)) = some j := by
        rw [WideElems.findIdx_arr]
        exact WideElems.findIdx_born h2 f2
      have hlist : (arr.modify j (fun e => { e with val := val })).toList = arr.toList.set j ⟨e0.key, val, e0.born⟩ := by
        rw [Array.toList_modify, ChangeMaps.modify_eq_set _ _ _ _ f2]
      have hborn : (arr.modify j (fun e => { e with val := val })).toList.map (·.born) = arr.toList.map (·.born) := by
        rw [hlist, List.map_set]
        refine WideElems.set_self _ _ _ ?_
        rw [List.getElem?_map, f2]; rfl
      refine ⟨setBlock w2 b (.map (arr.modify j (fun e => { e with val := val })) clock), ?_, ⟨_, _, setBlock_at hw2, ?_, ?_, ?_, put_keys h4, ?_⟩, (But.refl b w2).setBlock _, by simp [setBlock]⟩
      · simp [Instr.entryStore, MapKept.run_getObj_map hw2, asInt, asIntOf, goInt, hidx, MapKept.run_setObj_map _ hw2, Result.andThen, setBlock]
      · intro x hx
        rw [hlist] at hx
        rcases List.mem_or_eq_of_mem_set hx with hx | rfl
        · exact h1 x hx
        · exact h1 e0 (List.mem_of_getElem? f2)
      · rw [hborn]; exact h2
      · rw [put_hit hhas, hlist, List.map_set, h3, List.map_map]
        apply List.ext_getElem?
        intro i
        have hjl : (es.map (fun x => (kv x.1, x.2)))[j]? = some (kv p, e0.val) := by
          rw [← h3, List.getElem?_map, f2, Option.map_some, f3]
        by_cases hij : j = i
        · subst hij
          have hjb := (List.getElem?_eq_some_iff.1 hjl).1
          rw [List.getElem?_set_self hjb, List.getElem?_map]
          rw [List.getElem?_map, Option.map_eq_some_iff] at hjl
          obtain ⟨x, hx, hxe⟩ := hjl
          have g1 : kv x.1 = kv p := congrArg Prod.fst hxe
          have gx := kv_inj g1
          rw [hx, Option.map_some, Function.comp, gx, f3]
          simp only [beq_self_eq_true, if_true]
        · rw [List.getElem?_set_ne hij, List.getElem?_map, List.getElem?_map]
          cases hx : es[i]? with
          | none => rfl
          | some x =>
            have hne : x.1 ≠ p := fun e => by
              rw [List.getElem?_map, Option.map_eq_some_iff] at hjl
              obtain ⟨y, hy, hye⟩ := hjl
              injection hye with g1 g2
              have hyp := kv_inj g1
              rw [List.pairwise_iff_getElem] at h4
              obtain ⟨i1, i2⟩ := List.getElem?_eq_some_iff.1 hx
              obtain ⟨j1, j2⟩ := List.getElem?_eq_some_iff.1 hy
              rcases Nat.lt_or_gt_of_ne hij with hlt' | hlt'
              · exact h4 j i j1 i1 hlt' (by rw [i2, j2, e, hyp])
              · exact h4 i j i1 j1 hlt' (by rw [i2, j2, e, hyp])
            simp [hne]
      · intro x hx
        rcases mem_put.1 hx with ⟨h6, _⟩ | ⟨_, h6⟩
        · rw [h6]; exact hp
        · exact h5 x h6
end Go.Proofs.YtblmaokonhdjaaaGreatDoor

namespace Go.Proofs.YtblmaokonhdjaaaGreatDoor
open Go.RowKit
namespace Cut
open Tree
theorem cut02 : cut 0 2 = [(0, 2)] := by decide
theorem cmp2 (a b : T) : cmp [a, b] 0 = [nd a b] := by
  show List.map _ (cut 0 2) = _
  rw [cut02]
  show [root [a, b]] = _
  rw [root_cut (by simp)]
  rfl
/-- hashes of hashes are such -/
theorem cmp_hs {L : List T} {a : Nat} (h : Hs L) : Hs (cmp L a) := fun x hx => by
  obtain ⟨q, _, rfl⟩ := List.mem_map.1 hx
  exact root_hash ((h.drop _).take _)
end Cut
theorem hsB_of {l : List (List UInt8)} (h : Tree.Hs l) : hsB l = true := by
  unfold hsB
  rw [List.all_eq_true]
  intro x hx
  simpa using h x hx
theorem Mov.below {F F' : Nat → Prop} {w w' : World} {B : Nat} (h : Mov F w w' F') (hB : B ≤ w.heap.size) (hF : ∀ k, F k → B ≤ k) : Below B w w' ∧ ∀ k, F' k → B ≤ k := by
  refine ⟨⟨h.keep.os, h.keep.tape, h.keep.output, h.keep.size, fun k hk => h.keep.block k (by omega) fun e => ?_⟩, fun k hk => ?_⟩
  · have := hF k e; omega
  · rcases h.new k hk with e | e
    · exact hF k e
    · omega
end Go.Proofs.YtblmaokonhdjaaaGreatDoor

namespace Go.Proofs.YtblmaokonhdjaaaGreatDoor
open Go.RowKit
theorem Mp.keys {w : World} {b : Nat} {es : List ((Int × Int) × Value)} (h : Mp w b es) : es.Pairwise (fun x y => x.1 ≠ y.1) := by
  obtain ⟨_, _, _, _, _, _, h, _⟩ := h
  exact h
/-- a tree's blocks -/
def Fb (q b : Nat) (es : List ((Int × Int) × Value)) (k : Nat) : Prop := k = q ∨ k = b ∨ ∃ p v, (p, v) ∈ es ∧ v.ownBlock = some k
/-- a tree in memory: its rows are R's -/
structure Tr (w : World) (q b h s : Nat) (es : List ((Int × Int) × Value)) (R : Int × Int → List (List UInt8)) : Prop where
  row : w.heap[q]? = some (.cells #[.int .i64 (h : Int), .int .i64 (s : Int), .map (some b)] 158 (0, 0))
  mp : Mp w b es
  qb : q ≠ b
  el : ∀ p v, (p, v) ∈ es → Own w 0 v (svs (R p)) ∧ ∀ k, v.ownBlock = some k → k ≠ q ∧ k ≠ b
  no : ∀ p, ¬ has es p → R p = []
  apart : ∀ p v p' v' k, (p, v) ∈ es → (p', v') ∈ es → p ≠ p' → v.ownBlock = some k → v'.ownBlock ≠ some k
theorem Own.ltS {w : World} {base : Nat} {v : Value} {cs : List Value} (h : Own w base v cs) : ∀ k, v.ownBlock = some k → k < w.heap.size := by
  rcases h with ⟨rfl, _⟩ | ⟨g, cap, rfl, _, _, _, _, _, h6⟩
  · intro k hk; cases hk
  · intro k hk; cases hk; exact h6
theorem Tr.lt {w : World} {q b h s : Nat} {es : List ((Int × Int) × Value)} {R : Int × Int → List (List UInt8)} (t : Tr w q b h s es R) : ∀ k, Fb q b es k → k < w.heap.size := fun k hk => by
  rcases hk with rfl | rfl | ⟨p, v, hm, hk⟩
  · exact (Array.getElem?_eq_some_iff.1 t.row).1
  · exact t.mp.lt
  · exact (t.el p v hm).1.ltS k hk
theorem Tr.keep {w w' : World} {q b h s : Nat} {es : List ((Int × Int) × Value)} {R : Int × Int → List (List UInt8)} {S : Nat → Prop} (t : Tr w q b h s es R) (hk : Keep S w w') (hd : ∀ k, Fb q b es k → ¬ S k) : Tr w' q b h s es R := by
  have e : ∀ k, Fb q b es k → w'.heap[k]? = w.heap[k]? := fun k hf => hk.block k (t.lt k hf) (hd k hf)
  refine ⟨(e q (.inl rfl)).trans t.row, t.mp.heap (e b (.inr (.inl rfl))), t.qb, fun p v hm => ⟨?_, (t.el p v hm).2⟩, t.no, t.apart⟩
  exact (t.el p v hm).1.kept hk.size fun g hg => e g (.inr (.inr ⟨p, v, hm, hg⟩))
theorem Tr.below {w w' : World} {q b h s : Nat} {es : List ((Int × Int) × Value)} {R : Int × Int → List (List UInt8)} (t : Tr w q b h s es R) (hb : Below w.heap.size w w') : Tr w' q b h s es R :=
  t.keep (S := fun k => w.heap.size ≤ k) ⟨hb.os, hb.tape, hb.output, hb.size, fun k hk _ => hb.block k hk⟩ (fun k hk e => by have := t.lt k hk; omega)
theorem Tr.c0 {w : World} {q b h s : Nat} {es : List ((Int × Int) × Value)} {R : Int × Int → List (List UInt8)} (t : Tr w q b h s es R) : w.cell? ⟨q, 0, none⟩ = some (.int .i64 (h : Int)) := by rw [cell_of_row _ _ _ _ _ _ t.row]; rfl
theorem Tr.c1 {w : World} {q b h s : Nat} {es : List ((Int × Int) × Value)} {R : Int × Int → List (List UInt8)} (t : Tr w q b h s es R) : w.cell? ⟨q, 1, none⟩ = some (.int .i64 (s : Int)) := by rw [cell_of_row _ _ _ _ _ _ t.row]; rfl
theorem Tr.c2 {w : World} {q b h s : Nat} {es : List ((Int × Int) × Value)} {R : Int × Int → List (List UInt8)} (t : Tr w q b h s es R) : w.cell? ⟨q, 2, none⟩ = some (.map (some b)) := by rw [cell_of_row _ _ _ _ _ _ t.row]; rfl
theorem Tr.f1 {w : World} {q b h s : Nat} {es : List ((Int × Int) × Value)} {R : Int × Int → List (List UInt8)} (t : Tr w q b h s es R) : w.frozen? ⟨q, 1, none⟩ = false := frozen_of_row _ _ _ _ _ t.row
theorem Tr.at {w : World} {q b h s : Nat} {es : List ((Int × Int) × Value)} {R : Int × Int → List (List UInt8)} (t : Tr w q b h s es R) (p : Int × Int) : Own w 0 (look es p) (svs (R p)) ∧ ∀ k, (look es p).ownBlock = some k → Fb q b es k ∧ k ≠ q ∧ k ≠ b := by
  by_cases hp : has es p
  · obtain ⟨v, hv⟩ := hp
    rw [look_mem t.mp.keys hv]
    exact ⟨(t.el p v hv).1, fun k hk => ⟨.inr (.inr ⟨p, v, hv, hk⟩), (t.el p v hv).2 k hk⟩⟩
  · rw [look_none hp, t.no p hp]
    exact ⟨Own.nil _ _, fun k hk => (by cases hk)⟩
theorem tOrNone_any (q : Nat) (w : World) : Calls Tryz.prog 89 #[.pointer (some ⟨q, 0, none⟩)] w fun r w' => r = .returned (.pointer (some ⟨q, 0, none⟩)) ∧ w' = w := by
  go_enter Tryz.func89, Tryz.ntmps89
  go_wp2
  go_ret
  exact ⟨rfl, rfl⟩
theorem tSize_any {w : World} {q b h s : Nat} {es : List ((Int × Int) × Value)} {R : Int × Int → List (List UInt8)} (t : Tr w q b h s es R) : Calls Tryz.prog 52 #[.pointer (some ⟨q, 0, none⟩)] w fun r w' => r = .returned (.int .i64 (s : Int)) ∧ w' = w := by
  have h0 := t.c1
  go_enter Tryz.func52, Tryz.ntmps52
  go_wp2_with (go_at_call 89; refine (tOrNone_any q w).mono ?_; rintro e w' ⟨rfl, rfl⟩)
  go_ret
  exact ⟨rfl, rfl⟩
theorem tHeight_any {w : World} {q b h s : Nat} {es : List ((Int × Int) × Value)} {R : Int × Int → List (List UInt8)} (t : Tr w q b h s es R) : Calls Tryz.prog 87 #[.pointer (some ⟨q, 0, none⟩)] w fun r w' => r = .returned (.int .i64 (h : Int)) ∧ w' = w := by
  have h0 := t.c0
  go_enter Tryz.func87, Tryz.ntmps87
  go_wp2_with (go_at_call 89; refine (tOrNone_any q w).mono ?_; rintro e w' ⟨rfl, rfl⟩)
  go_ret
  exact ⟨rfl, rfl⟩
end Go.Proofs.YtblmaokonhdjaaaGreatDoor
