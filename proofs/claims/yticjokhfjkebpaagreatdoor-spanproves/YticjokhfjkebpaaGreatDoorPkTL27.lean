import Derived.Maps.RangeRun
import Derived.Maps.Range
import Derived.Test.YticjokhfjkebpaaGreatDoorPkTL20
namespace Go.Proofs.YticjokhfjkebpaaGreatDoor
open Go.RowKit
open Go.ChangeMaps (setBlock)
theorem nodup_inj {α β : Type} {f : α → β} : ∀ {l : List α}, (l.map f).Nodup → ∀ {x y : α}, x ∈ l → y ∈ l → f x = f y → x = y
  | [], _, _, _, hx, _, _ => by cases hx
  | a :: l, h, x, y, hx, hy, e => by
    rw [List.map_cons, List.nodup_cons] at h
    rcases List.mem_cons.1 hx with ex | mx
    · rcases List.mem_cons.1 hy with ey | my
      · rw [ex, ey]
      · exact absurd (List.mem_map.2 ⟨y, my, by rw [← e, ex]⟩) h.1
    · rcases List.mem_cons.1 hy with ey | my
      · exact absurd (List.mem_map.2 ⟨x, mx, by rw [e, ey]⟩) h.1
      · exact nodup_inj h.2 mx my e
/-- m[p] = v, of a place that it has not -/
theorem Mp.store {w : World} {b : Nat} {es : List ((Int × Int) × Value)} (h : Mp w b es) {p : Int × Int} (hp : InR p) (hno : ¬ has es p) (val : Value) :
    ∃ w', (Instr.mapUpdate 112 (.map (some b)) (.agg #[.int .i64 p.1, .int .i64 p.2]) val).run Tryz.prog w = .ok () w' ∧ Mp w' b (es ++ [(p, val)]) ∧ But b w w' ∧ w'.heap.size = w.heap.size := by
  obtain ⟨arr, clock, hb, h1, h2, h3, h4, h5⟩ := h
  obtain ⟨l, hl⟩ := keyPl hp
  rcases lawPl.find w hl arr.toList (Mp.keysOk h3 h5) with ⟨f1, f2⟩ | ⟨j, e0, f1, f2, f3⟩
  · refine ⟨setBlock w b (.map (arr.push ⟨kv p, val, clock⟩) (clock + 1)), ?_, ⟨_, _, setBlock_at hb, ?_, ?_, ?_, ?_, ?_⟩, (But.refl b w).setBlock _, by simp [setBlock]⟩
    · have := lawPl.check w false hl
      unfold kv at this f1
      simp [Instr.mapUpdate, run_underlying undMp, MapKept.run_getObj_map hb, this, f1, MapKept.run_setObj_map _ hb, setBlock, kv]
    · intro x hx
      rw [Array.toList_push, List.mem_append, List.mem_singleton] at hx
      rcases hx with hx | rfl
      · have := h1 x hx; omega
      · simp
    · simp only [Array.toList_push, List.map_append, List.map_cons, List.map_nil]
      refine List.nodup_append.2 ⟨h2, by simp, fun a ha c hc e1 => ?_⟩
      simp only [List.mem_singleton] at hc
      obtain ⟨x, hx, rfl⟩ := List.mem_map.1 ha
      have := h1 x hx
      omega
    · simp only [Array.toList_push, List.map_append, List.map_cons, List.map_nil, h3]
    · have := put_keys (p := p) (v := val) h4
      rwa [put_new hno] at this
    · intro x hx
      rcases List.mem_append.1 hx with hx | hx
      · exact h5 x hx
      · rw [List.mem_singleton.1 hx]; exact hp
  · exact absurd ⟨_, Mp.memE h3 (List.mem_of_getElem? f2) f3⟩ hno
theorem Mp.len {w : World} {b : Nat} {es : List ((Int × Int) × Value)} (h : Mp w b es) (ty : TypeId) : ∃ n : Nat, (Builtin.len_ #[112] ty #[.map (some b)]).run Tryz.prog w = .ok (.int .i64 (n : Int)) w := by
  obtain ⟨arr, clock, hb, _⟩ := h
  exact ⟨arr.size, by simp [Builtin.len_, run_underlying undMp, MapKept.run_getObj_map hb, goInt, Result.andThen]⟩
theorem make_map (w : World) (n : Nat) : (Instr.makeMap 112 (some (.int .i64 (n : Int)))).run Tryz.prog w = .ok (.map (some w.heap.size)) (w.alloc (.map #[] 0)) := by
  simp [Instr.makeMap, run_underlying undMp, asInt, asIntOf, Result.andThen]
/-- a map that is ranged over: the places that came out -/
def Itr (w : World) (b r : Nat) (es : List ((Int × Int) × Value)) (sk : List (Int × Int)) : Prop :=
  ∃ arr clock since seen c0, w.heap[b]? = some (.map arr clock) ∧ ((∀ x ∈ arr.toList, x.born < clock) ∧ (arr.toList.map (·.born)).Nodup ∧ arr.toList.map (fun e => (e.key, e.val)) = es.map (fun x => (kv x.1, x.2)) ∧ es.Pairwise (fun x y => x.1 ≠ y.1) ∧ ∀ x ∈ es, InR x.1) ∧
    w.heap[r]? = some (.mapIter (some b) since seen c0) ∧ (∀ x ∈ arr.toList, x.born < since) ∧ since ≤ c0 ∧ since ≤ clock ∧ ∀ e ∈ arr.toList, ∀ p, e.key = kv p → (seen.contains e.born = true ↔ p ∈ sk)
theorem Itr.heap {w w' : World} {b r : Nat} {es : List ((Int × Int) × Value)} {sk : List (Int × Int)} (h : Itr w b r es sk) (h1 : w'.heap[b]? = w.heap[b]?) (h2 : w'.heap[r]? = w.heap[r]?) : Itr w' b r es sk ∧ w'.rangeLeft b r = w.rangeLeft b r := by
  obtain ⟨arr, clock, since, seen, c0, g1, g2, g3, g4⟩ := h
  exact ⟨⟨arr, clock, since, seen, c0, h1.trans g1, g2, h2.trans g3, g4⟩, by unfold World.rangeLeft; rw [h1, h2]⟩
theorem Itr.lt {w : World} {b r : Nat} {es : List ((Int × Int) × Value)} {sk : List (Int × Int)} (h : Itr w b r es sk) : b < w.heap.size ∧ r < w.heap.size ∧ r ≠ b := by
  obtain ⟨arr, clock, since, seen, c0, g1, g2, g3, g4⟩ := h
  refine ⟨(Array.getElem?_eq_some_iff.1 g1).1, (Array.getElem?_eq_some_iff.1 g3).1, fun e => ?_⟩
  rw [e, g1] at g3
  cases g3
theorem Itr.start {w : World} {b : Nat} {es : List ((Int × Int) × Value)} (h : Mp w b es) : ∃ w', (Instr.range 112 (.map (some b))).run Tryz.prog w = .ok (.pointer (some ⟨w.heap.size, 0, none⟩)) w' ∧ Itr w' b w.heap.size es [] ∧ Below w.heap.size w w' ∧ w'.heap.size = w.heap.size + 1 := by
  have hlt := h.lt
  obtain ⟨arr, clock, hb, h1, h2, h3, h4, h5⟩ := h
  have ba := (Below.refl w.heap.size w).alloc (Nat.le_refl _) (.mapIter (some b) clock #[] clock)
  exact ⟨_, run_range_map w _ _ _ b arr clock undMp hb, ⟨arr, clock, clock, #[], clock, (ba.block b hlt).trans hb, ⟨h1, h2, h3, h4, h5⟩, heap_alloc_new w _, h1, Nat.le_refl _, Nat.le_refl _, fun e he p hp => by simp⟩, ba, size_alloc w _⟩
theorem Itr.next {w : World} {b r : Nat} {es : List ((Int × Int) × Value)} {sk : List (Int × Int)} (h : Itr w b r es sk) (ty : TypeId) :
    ((∀ x ∈ es, x.1 ∈ sk) ∧ (Instr.next (.pointer (some ⟨r, 0, none⟩)) false ty).run Tryz.prog w = .ok (.tuple #[.bool false]) w) ∨
    ∃ p v w', (p, v) ∈ es ∧ p ∉ sk ∧ InR p ∧ (Instr.next (.pointer (some ⟨r, 0, none⟩)) false ty).run Tryz.prog w = .ok (.tuple #[.bool true, .agg #[.int .i64 p.1, .int .i64 p.2], v]) w' ∧ But r w w' ∧ w'.heap.size = w.heap.size ∧ Itr w' b r es (sk ++ [p]) ∧ w'.rangeLeft b r < w.rangeLeft b r ∧
      (Instr.entry (.pointer (some ⟨r, 0, none⟩))).run Tryz.prog w' = .ok (.tuple #[.agg #[.int .i64 p.1, .int .i64 p.2], v]) w' := by
  obtain ⟨hbl, hrl, hrb⟩ := h.lt
  obtain ⟨arr, clock, since, seen, c0, hb, ⟨h1, h2, h3, h4, h5⟩, hr, hold, hsc, hsk, hdone⟩ := h
  rcases run_next_at (P := Tryz.prog) w ty r b since c0 seen arr clock hr hb hold hsc with ⟨h0, hrun⟩ | ⟨e, he, w1, hal, hrun⟩
  · refine .inl ⟨fun x hx => ?_, hrun⟩
    have hm : (kv x.1, x.2) ∈ arr.toList.map (fun e => (e.key, e.val)) := by rw [h3]; exact List.mem_map.2 ⟨x, hx, rfl⟩
    obtain ⟨e, he, hee⟩ := List.mem_map.1 hm
    exact (hdone e he x.1 (congrArg Prod.fst hee)).1 (all_seen arr seen h0 e he)
  · obtain ⟨hem, hes⟩ := mem_left he
    have hm : (e.key, e.val) ∈ es.map (fun x => (kv x.1, x.2)) := by rw [← h3]; exact List.mem_map.2 ⟨e, hem, rfl⟩
    obtain ⟨x, hx, hxe⟩ := List.mem_map.1 hm
    have hk : e.key = kv x.1 := (congrArg Prod.fst hxe).symm
    have hv : e.val = x.2 := (congrArg Prod.snd hxe).symm
    have hr1 : w1.heap[r]? = some (.mapIter (some b) since seen c0) := by rcases hal with rfl | rfl <;> exact hr
    have hb1 : w1.heap[b]? = some (.map arr clock) := by rcases hal with rfl | rfl <;> exact hb
    have bt : But r w1 (setBlock w1 r (.mapIter (some b) since (seen.push e.born) clock)) := (But.refl r w1).setBlock _
    have bt' : But r w (setBlock w1 r (.mapIter (some b) since (seen.push e.born) clock)) := by
      rcases hal with rfl | rfl
      · exact bt
      · exact (But.refl r w).drew.trans bt
    have hr2 := setBlock_at (o' := .mapIter (some b) since (seen.push e.born) clock) hr1
    have hb2 := (bt'.block b hbl (Ne.symm hrb)).trans hb
    have hent := run_entry_at (P := Tryz.prog) _ r b since seen arr clock e hr2 hb2 hem h2
    rw [hk, hv] at hrun hent
    refine .inr ⟨x.1, x.2, _, hx, fun hin => ?_, h5 x hx, hrun, bt', ?_, ⟨arr, clock, since, seen.push e.born, clock, hb2, ⟨h1, h2, h3, h4, h5⟩, hr2, hold, hsk, hsk, fun e' he' p hp => ?_⟩, ?_, hent⟩
    · rw [(hdone e hem x.1 hk).2 hin] at hes
      cases hes
    · rcases hal with rfl | rfl <;> simp [setBlock]
    · rw [contains_push, Bool.or_eq_true, List.mem_append, List.mem_singleton, hdone e' he' p hp]
      constructor
      · rintro (h | h)
        · exact .inl h
        · have hbe : e'.born = e.born := eq_of_beq h
          have : e' = e := nodup_inj h2 he' hem hbe
          rw [this, hk] at hp
          exact .inr (kv_inj hp).symm
      · rintro (h | h)
        · exact .inl h
        · right
          subst h
          have hm1 : e'.key = e.key := hp.trans hk.symm
          have : e' = e := by
            have hn : (arr.toList.map (·.key)).Nodup := by
              have e1 : arr.toList.map (·.key) = es.map (fun x => kv x.1) := by
                have := congrArg (List.map Prod.fst) h3
                rw [List.map_map, List.map_map] at this
                exact this
              rw [e1]
              exact List.pairwise_map.2 (h4.imp fun {a b} hab e => hab (kv_inj e))
            exact nodup_inj hn he' hem hm1
          rw [this]; simp
    · have l1 : w.rangeLeft b r = (leftOf arr seen).size := by unfold World.rangeLeft; rw [hb, hr]
      have l2 : (setBlock w1 r (.mapIter (some b) since (seen.push e.born) clock)).rangeLeft b r = (leftOf arr (seen.push e.born)).size := by unfold World.rangeLeft; rw [hb2, hr2]
      rw [l1, l2]
      exact left_shrinks arr seen e he
end Go.Proofs.YticjokhfjkebpaaGreatDoor
