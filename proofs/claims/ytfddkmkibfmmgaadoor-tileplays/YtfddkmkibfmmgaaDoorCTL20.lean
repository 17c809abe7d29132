import Derived.Test.YtfddkmkibfmmgaaDoorCTL16
import Derived.Maps.RangeRun
import Derived.Maps.Range
namespace Go.Proofs.YtfddkmkibfmmgaaDoor
open Go.RowKit
set_option maxRecDepth 100000 in
set_option maxHeartbeats 4000000 in
theorem ttile_any {w : World} {q h : Nat} {L : List (List UInt8)} {F : Nat → Prop} (t : TrL w q h L F) (l i : Int) (hi1 : -9223372036854775808 ≤ i) (hi2 : i ≤ 9223372036854775807) :
    Calls Tryd.prog 37 #[.pointer (some ⟨q, 0, none⟩), .int .i64 l, .int .i64 i] w fun r w' => ∃ a cap, r = .returned (.slice a (tileO L h l i).length cap) ∧ At w' a (tileO L h l i) ∧ Below w.heap.size w w' := by
  have hL20 := t.n20
  have h8 := t.h8
  obtain ⟨⟨b, es, t1, rfl⟩, _, _, _, _, _⟩ := t
  obtain ⟨n, hn⟩ : ∃ n, L.length = n := ⟨_, rfl⟩
  obtain ⟨c, hc64, hcl, hlen⟩ := blen n (by omega) w
  have u1 : IntKind.u64.wrap (n : Int) = (n : Int) := by rw [IntKind.wrap_u64]; omega
  have q0 := t1.c0
  have q1 := t1.c1
  have q2 := t1.c2
  rw [hn] at q1
  by_cases h0 : l < 0
  · have hO : tileO L h l i = [] := by unfold tileO; rw [if_neg (by omega)]
    rw [hO]
    clear hcl hlen hO t1
    go_enter Tryd.func37, Tryd.ntmps37
    go_wp2
    go_ret
    exact ⟨none, 0, rfl, fun j p hp => by simp at hp, Below.refl _ _⟩
  · obtain ⟨l', rfl⟩ : ∃ l' : Nat, l = (l' : Int) := ⟨l.toNat, by omega⟩
    have h0' : ¬ (l' : Int) < 0 := by omega
    by_cases h1 : l' < c
    · have h1' : ¬ (l' : Int) ≥ (c : Int) := by omega
      have hO : tileO L h (l' : Int) i = Til.rf L h (Til.cn L.length) (((l' * h : Nat) : Int), i) := by
        unfold tileO
        rw [if_pos ⟨by omega, by rw [Int.toNat_natCast, hn]; exact (hcl l').2 h1⟩]
        rw [Int.natCast_mul]
      have hm : l' * h ≤ 64 * 8 := Nat.mul_le_mul (by omega) h8
      have s1 : IntKind.i64.wrap ((l' : Int) * (h : Int)) = ((l' * h : Nat) : Int) := by rw [← Int.natCast_mul]; exact wrap_small _ (by omega) (by omega)
      obtain ⟨m, hm2⟩ : ∃ m, l' * h = m := ⟨_, rfl⟩
      rw [hm2] at s1 hO hm
      obtain ⟨o3, _⟩ := t1.at ((m : Int), i)
      obtain ⟨a, cap, hv, hA, hln, hcp⟩ := o3.at
      have hlk := (t1.mp.heap (w' := w.drew) rfl).lookup (p := ((m : Int), i)) ⟨⟨by simp only; omega, by simp only; omega⟩, hi1, hi2⟩
      rw [hv] at hlk
      rw [hO]
      have HA := hid hA
      obtain ⟨k, hk⟩ : ∃ k, (Til.rf L h (Til.cn L.length) ((m : Int), i)).length = k := ⟨_, rfl⟩
      rw [hk] at hlk ⊢
      have hlk2 : (Instr.lookup 71 (.map (some b)) (.agg #[.int .i64 (m : Int), .int .i64 i]) false).run Tryd.prog w.drew = .ok (.slice a k cap) w.drew := hlk
      have S0 : w.cell? ⟨q, 2, none⟩ = some (.map (some b)) ∧ w.cell? ⟨q, 0, none⟩ = some (.int .i64 (h : Int)) := ⟨q2, q0⟩
      clear hcl hlk hv hA o3 hO hm2 t1 hk hm
      go_enter Tryd.func37, Tryd.ntmps37
      go_wp2_with (go_at_call 62; refine hlen.mono ?_; rintro e w0 ⟨rfl, h0⟩; have h0 := h0.symm; subst h0)
      go_region_held3 (fun w' => w'.cell? ⟨q, 2, none⟩ = some (.map (some b)) ∧ w'.cell? ⟨q, 0, none⟩ = some (.int .i64 (h : Int))) (exact S0) (fail)
      go_wp2
      go_ret
      exact ⟨a, cap, rfl, HA.out, (Below.refl _ _).drew⟩
    · have h1' : (l' : Int) ≥ (c : Int) := by omega
      have hO : tileO L h (l' : Int) i = [] := by
        unfold tileO
        rw [if_neg (fun x => h1 ((hcl l').1 (by have := x.2; rw [Int.toNat_natCast, hn] at this; exact this)))]
      rw [hO]
      clear hcl hO t1
      go_enter Tryd.func37, Tryd.ntmps37
      go_wp2_with (go_at_call 62; refine hlen.mono ?_; rintro e w0 ⟨rfl, h0⟩; have h0 := h0.symm; subst h0)
      go_ret
      exact ⟨none, 0, rfl, fun j p hp => by simp at hp, Below.refl _ _⟩
/-- what Tile answers: none, or a list of its own -/
def TileP (w : World) (l : List (List UInt8)) (r : Ending) (w' : World) : Prop :=
  Below w.heap.size w w' ∧ if l = [] then r = .returned (.tuple #[.slice none 0 0, .int .i64 72]) else ∃ g, w.heap.size ≤ g ∧ r = .returned (.tuple #[.slice (some ⟨g, 0, none⟩) l.length l.length, .int .i64 0]) ∧ Row w' g l
theorem tileO_len {w : World} {q h : Nat} {L : List (List UInt8)} {F : Nat → Prop} (t : TrL w q h L F) (l i : Int) : (tileO L h l i).length ≤ 2000000 := by
  unfold tileO
  split
  · exact Til.rf_len L h t.h8 _ _
  · simp
set_option maxRecDepth 100000 in
set_option maxHeartbeats 4000000 in
theorem tTile_any {w : World} {q h : Nat} {L : List (List UInt8)} {F : Nat → Prop} (t : TrL w q h L F) (l i : Int) (hi1 : -9223372036854775808 ≤ i) (hi2 : i ≤ 9223372036854775807) :
    Calls Tryd.prog 13 #[.pointer (some ⟨q, 0, none⟩), .int .i64 l, .int .i64 i] w (TileP w (tileO L h l i)) := by
  have i1 := ttile_any t l i hi1 hi2
  have hlen := tileO_len t l i
  generalize tileO L h l i = O at *
  obtain ⟨n, hn⟩ : ∃ n, O.length = n := ⟨_, rfl⟩
  rw [hn] at i1 hlen
  clear t
  by_cases hnil : O = []
  · subst hnil
    obtain rfl : n = 0 := by rw [← hn]; rfl
    go_enter Tryd.func13, Tryd.ntmps13
    go_wp2_with (first
      | (go_at_call 33; refine (tOrNone_any q w).mono ?_; rintro e w0 ⟨rfl, h0⟩; have h0 := h0.symm; subst h0)
      | (go_at_call 37; refine i1.mono ?_; rintro r w2 ⟨a, cap, rfl, hA, hw2⟩))
    go_ret2
    exact ⟨hw2, by rw [if_pos rfl]; rfl⟩
  · have hn0 : n ≠ 0 := fun e => hnil (List.eq_nil_of_length_eq_zero (by omega))
    have c0 : ((n : Int) == 0) = false := by simp; omega
    go_enter Tryd.func13, Tryd.ntmps13
    go_wp2_with (first
      | (go_at_call 33; refine (tOrNone_any q w).mono ?_; rintro e w0 ⟨rfl, h0⟩; have h0 := h0.symm; subst h0)
      | (go_at_call 37; fail))
    refine i1.mono ?_
    rintro r w2 ⟨a, cap, rfl, hA, hw2⟩
    have i2 := tcopied_any O a cap w2 (by omega) hA
    rw [hn] at i2
    clear i1 hA
    go_wp2_with (go_at_call 38; refine i2.mono ?_; rintro r w3 ⟨rfl, R3, hw3⟩)
    go_ret2
    refine ⟨hw2.trans (hw3.mono hw2.size), ?_⟩
    rw [if_neg hnil, hn]
    exact ⟨w2.heap.size, hw2.size, rfl, R3⟩
end Go.Proofs.YtfddkmkibfmmgaaDoor

namespace Go.Proofs.YtfddkmkibfmmgaaDoor
open Go.RowKit
open Go.ChangeMaps (setBlock)
theorem nodup_inj {α β : Type} {f : α → β} : ∀ {l : List α}, (l.map f).Nodup → ∀ {x y : α}, x ∈ l → y ∈ l → f x = f y → x = y
  | [], _, _, _, hx, _, _ => by cases hx
  | a :: l, h, x, y, hx, hy, e => by
    rw [List.map_cons, List.nodup_cons] at h
    rcases List.mem_cons.1 hx with ex | mx
    · rcases List.mem_cons.1 hy with ey | my
      · rw [ex, ey]
      · exact absurd (List.mem_map.2 ⟨y, my, by rw [← e, ex]⟩) h.1
    · rcases List.mem_cons.1 hy with ey | my
      · exact absurd (List.mem_map.2 ⟨x, mx, by rw [e, ey]⟩) h.1
      · exact nodup_inj h.2 mx my e
/-- m[p] = v, of a place that it has not -/
theorem Mp.store {w : World} {b : Nat} {es : List ((Int × Int) × Value)} (h : Mp w b es) {p : Int × Int} (hp : InR p) (hno : ¬ has es p) (val : Value) :
    ∃ w', (Instr.mapUpdate 71 (.map (some b)) (.agg #[.int .i64 p.1, .int .i64 p.2]) val).run Tryd.prog w = .ok () w' ∧ Mp w' b (es ++ [(p, val)]) ∧ But b w w' ∧ w'.heap.size = w.heap.size := by
  obtain ⟨arr, clock, hb, h1, h2, h3, h4, h5⟩ := h
  obtain ⟨l, hl⟩ := keyPl hp
  rcases lawPl.find w hl arr.toList (Mp.keysOk h3 h5) with ⟨f1, f2⟩ | ⟨j, e0, f1, f2, f3⟩
  · refine ⟨setBlock w b (.map (arr.push ⟨kv p, val, clock⟩) (clock + 1)), ?_, ⟨_, _, setBlock_at hb, ?_, ?_, ?_, ?_, ?_⟩, (But.refl b w).setBlock _, by simp [setBlock]⟩
    · have := lawPl.check w false hl
      unfold kv at this f1
      simp [Instr.mapUpdate, run_underlying undMp, MapKept.run_getObj_map hb, this, f1, MapKept.run_setObj_map _ hb, setBlock, kv]
    · intro x hx
      rw [Array.toList_push, List.mem_append, List.mem_singleton] at hx
      rcases hx with hx | rfl
      · have := h1 x hx; omega
      · simp
    · simp only [Array.toList_push, List.map_append, List.map_cons, List.map_nil]
      refine List.nodup_append.2 ⟨h2, by simp, fun a ha c hc e1 => ?_⟩
      simp only [List.mem_singleton] at hc
      obtain ⟨x, hx, rfl⟩ := List.mem_map.1 ha
      have := h1 x hx
      omega
    · simp only [Array.toList_push, List.map_append, List.map_cons, List.map_nil, h3]
    · have := put_keys (p := p) (v := val) h4
      rwa [put_new hno] at this
    · intro x hx
      rcases List.mem_append.1 hx with hx | hx
      · exact h5 x hx
      · rw [List.mem_singleton.1 hx]; exact hp
  · exact absurd ⟨_, Mp.memE h3 (List.mem_of_getElem? f2) f3⟩ hno
theorem Mp.len {w : World} {b : Nat} {es : List ((Int × Int) × Value)} (h : Mp w b es) (ty : TypeId) : ∃ n : Nat, (Builtin.len_ #[71] ty #[.map (some b)]).run Tryd.prog w = .ok (.int .i64 (n : Int)) w := by
  obtain ⟨arr, clock, hb, _⟩ := h
  exact ⟨arr.size, by simp [Builtin.len_, run_underlying undMp, MapKept.run_getObj_map hb, goInt, Result.andThen]⟩
theorem make_map (w : World) (n : Nat) : (Instr.makeMap 71 (some (.int .i64 (n : Int)))).run Tryd.prog w = .ok (.map (some w.heap.size)) (w.alloc (.map #[] 0)) := by
  simp [Instr.makeMap, run_underlying undMp, asInt, asIntOf, Result.andThen]
/-- a map that is ranged over: the places that came out -/
def Itr (w : World) (b r : Nat) (es : List ((Int × Int) × Value)) (sk : List (Int × Int)) : Prop :=
  ∃ arr clock since seen c0, w.heap[b]? = some (.map arr clock) ∧ ((∀ x ∈ arr.toList, x.born < clock) ∧ (arr.toList.map (·.born)).Nodup ∧ arr.toList.map (fun e => (e.key, e.val)) = es.map (fun x => (kv x.1, x.2)) ∧ es.Pairwise (fun x y => x.1 ≠ y.1) ∧ ∀ x ∈ es, InR x.1) ∧
    w.heap[r]? = some (.mapIter (some b) since seen c0) ∧ (∀ x ∈ arr.toList, x.born < since) ∧ since ≤ c0 ∧ since ≤ clock ∧ ∀ e ∈ arr.toList, ∀ p, e.key = kv p → (seen.contains e.born = true ↔ p ∈ sk)
theorem Itr.heap {w w' : World} {b r : Nat} {es : List ((Int × Int) × Value)} {sk : List (Int × Int)} (h : Itr w b r es sk) (h1 : w'.heap[b]? = w.heap[b]?) (h2 : w'.heap[r]? = w.heap[r]?) : Itr w' b r es sk ∧ w'.rangeLeft b r = w.rangeLeft b r := by
  obtain ⟨arr, clock, since, seen, c0, g1, g2, g3, g4⟩ := h
  exact ⟨⟨arr, clock, since, seen, c0, h1.trans g1, g2, h2.trans g3, g4⟩, by unfold World.rangeLeft; rw [h1, h2]⟩
theorem Itr.lt {w : World} {b r : Nat} {es : List ((Int × Int) × Value)} {sk : List (Int × Int)} (h : Itr w b r es sk) : b < w.heap.size ∧ r < w.heap.size ∧ r ≠ b := by
  obtain ⟨arr, clock, since, seen, c0, g1, g2, g3, g4⟩ := h
  refine ⟨(Array.getElem?_eq_some_iff.1 g1).1, (Array.getElem?_eq_some_iff.1 g3).1, fun e => ?_⟩
  rw [e, g1] at g3
  cases g3
theorem Itr.start {w : World} {b : Nat} {es : List ((Int × Int) × Value)} (h : Mp w b es) : ∃ w', (Instr.range 71 (.map (some b))).run Tryd.prog w = .ok (.pointer (some ⟨w.heap.size, 0, none⟩)) w' ∧ Itr w' b w.heap.size es [] ∧ Below w.heap.size w w' ∧ w'.heap.size = w.heap.size + 1 := by
  have hlt := h.lt
  obtain ⟨arr, clock, hb, h1, h2, h3, h4, h5⟩ := h
  have ba := (Below.refl w.heap.size w).alloc (Nat.le_refl _) (.mapIter (some b) clock #[] clock)
  exact ⟨_, run_range_map w _ _ _ b arr clock undMp hb, ⟨arr, clock, clock, #[], clock, (ba.block b hlt).trans hb, ⟨h1, h2, h3, h4, h5⟩, heap_alloc_new w _, h1, Nat.le_refl _, Nat.le_refl _, fun e he p hp => by simp⟩, ba, size_alloc w _⟩
theorem Itr.next {w : World} {b r : Nat} {es : List ((Int × Int) × Value)} {sk : List (Int × Int)} (h : Itr w b r es sk) (ty : TypeId) :
    ((∀ x ∈ es, x.1 ∈ sk) ∧ (Instr.next (.pointer (some ⟨r, 0, none⟩)) false ty).run Tryd.prog w = .ok (.tuple #[.bool false]) w) ∨
    ∃ p v w', (p, v) ∈ es ∧ p ∉ sk ∧ InR p ∧ (Instr.next (.pointer (some ⟨r, 0, none⟩)) false ty).run Tryd.prog w = .ok (.tuple #[.bool true, .agg #[.int .i64 p.1, .int .i64 p.2], v]) w' ∧ But r w w' ∧ w'.heap.size = w.heap.size ∧ Itr w' b r es (sk ++ [p]) ∧ w'.rangeLeft b r < w.rangeLeft b r ∧
      (Instr.entry (.pointer (some ⟨r, 0, none⟩))).run Tryd.prog w' = .ok (.tuple #[.agg #[.int .i64 p.1, .int .i64 p.2], v]) w' := by
  obtain ⟨hbl, hrl, hrb⟩ := h.lt
  obtain ⟨arr, clock, since, seen, c0, hb, ⟨h1, h2, h3, h4, h5⟩, hr, hold, hsc, hsk, hdone⟩ := h
  rcases run_next_at (P := Tryd.prog) w ty r b since c0 seen arr clock hr hb hold hsc with ⟨h0, hrun⟩ | ⟨e, he, w1, hal, hrun⟩
  · refine .inl ⟨fun x hx => ?_, hrun⟩
    have hm : (kv x.1, x.2) ∈ arr.toList.map (fun e => (e.key, e.val)) := by rw [h3]; exact List.mem_map.2 ⟨x, hx, rfl⟩
    obtain ⟨e, he, hee⟩ := List.mem_map.1 hm
    exact (hdone e he x.1 (congrArg Prod.fst hee)).1 (all_seen arr seen h0 e he)
  · obtain ⟨hem, hes⟩ := mem_left he
    have hm : (e.key, e.val) ∈ es.map (fun x => (kv x.1, x.2)) := by rw [← h3]; exact List.mem_map.2 ⟨e, hem, rfl⟩
    obtain ⟨x, hx, hxe⟩ := List.mem_map.1 hm
    have hk : e.key = kv x.1 := (congrArg Prod.fst hxe).symm
    have hv : e.val = x.2 := (congrArg Prod.snd hxe).symm
    have hr1 : w1.heap[r]? = some (.mapIter (some b) since seen c0) := by rcases hal with rfl | rfl <;> exact hr
    have hb1 : w1.heap[b]? = some (.map arr clock) := by rcases hal with rfl | rfl <;> exact hb
    have bt : But r w1 (setBlock w1 r (.mapIter (some b) since (seen.push e.born) clock)) := (But.refl r w1).setBlock _
    have bt' : But r w (setBlock w1 r (.mapIter (some b) since (seen.push e.born) clock)) := by
      rcases hal with rfl | rfl
      · exact bt
      · exact (But.refl r w).drew.trans bt
    have hr2 := setBlock_at (o' := .mapIter (some b) since (seen.push e.born) clock) hr1
    have hb2 := (bt'.block b hbl (Ne.symm hrb)).trans hb
    have hent := run_entry_at (P := Tryd.prog) _ r b since seen arr clock e hr2 hb2 hem h2
    rw [hk, hv] at hrun hent
    refine .inr ⟨x.1, x.2, _, hx, fun hin => ?_, h5 x hx, hrun, bt', ?_, ⟨arr, clock, since, seen.push e.born, clock, hb2, ⟨h1, h2, h3, h4, h5⟩, hr2, hold, hsk, hsk, fun e' he' p hp => ?_⟩, ?_, hent⟩
    · rw [(hdone e hem x.1 hk).2 hin] at hes
      cases hes
    · rcases hal with rfl | rfl <;> simp [setBlock]
    · rw [contains_push, Bool.or_eq_true, List.mem_append, List.mem_singleton, hdone e' he' p hp]
      constructor
      · rintro (h | h)
        · exact .inl h
        · have hbe : e'.born = e.born := eq_of_beq h
          have : e' = e := nodup_inj h2 he' hem hbe
          rw [this, hk] at hp
          exact .inr (kv_inj hp).symm
      · rintro (h | h)
        · exact .inl h
        · right
          subst h
          have hm1 : e'.key = e.key := hp.trans hk.symm
          have : e' = e := by
            have hn : (arr.toList.map (·.key)).Nodup := by
              have e1 : arr.toList.map (·.key) = es.map (fun x => kv x.1) := by
                have := congrArg (List.map Prod.fst) h3
                rw [List.map_map, List.map_map] at this
                exact this
              rw [e1]
              exact List.pairwise_map.2 (h4.imp fun {a b} hab e => hab (kv_inj e))
            exact nodup_inj hn he' hem hm1
          rw [this]; simp
    · have l1 : w.rangeLeft b r = (leftOf arr seen).size := by unfold World.rangeLeft; rw [hb, hr]
      have l2 : (setBlock w1 r (.mapIter (some b) since (seen.push e.born) clock)).rangeLeft b r = (leftOf arr (seen.push e.born)).size := by unfold World.rangeLeft; rw [hb2, hr2]
      rw [l1, l2]
      exact left_shrinks arr seen e he
end Go.Proofs.YtfddkmkibfmmgaaDoor
