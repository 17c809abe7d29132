import Derived.Test.YticjokhfjkebpaaGreatDoorPkTL15
import Derived.Test.YticjokhfjkebpaaGreatDoorPkO15
import Derived.Test.YticjokhfjkebpaaGreatDoorPkFN3
import Derived.Maps.RangeRun
import Derived.Maps.Range
import Derived.Deep.CutRange
namespace Go.Proofs.YticjokhfjkebpaaGreatDoor
open Go.RowKit
theorem Tb.mov {w w' : World} {F F' : Nat → Prop} (Z : Tb w) (hm : Mov F w w' F') (hF : ∀ k, F k → 4 ≤ k) : Tb w' := Z.below (hm.below Z.lt hF).1 (Nat.le_refl _)
end Go.Proofs.YticjokhfjkebpaaGreatDoor

namespace Go.Proofs.YticjokhfjkebpaaGreatDoor
open Go.RowKit
end Go.Proofs.YticjokhfjkebpaaGreatDoor

namespace Go.Proofs.YticjokhfjkebpaaGreatDoor
open Go.RowKit
/-- T3: the hashes that a tile has so far -/
def tileO (L : List (List UInt8)) (h : Nat) (l i : Int) : List (List UInt8) := if 0 ≤ l ∧ 2 ^ l.toNat ≤ L.length then Til.rf L h (Til.cn L.length) (l * (h : Int), i) else []
theorem blen (n : Nat) (hn : n < 18446744073709551616) (w : World) : ∃ c : Nat, c ≤ 64 ∧ (∀ l : Nat, 2 ^ l ≤ n ↔ l < c) ∧ Calls Tryz.prog 138 #[.int .u64 (n : Int)] w fun e w' => e = .returned (.int .i64 (c : Int)) ∧ w' = w := by
  by_cases h0 : n = 0
  · subst h0
    refine ⟨0, by omega, fun l => ⟨fun h => absurd (Nat.two_pow_pos l) (by omega), fun h => absurd h (by omega)⟩, ?_⟩
    have := lenU_any (0 : Nat) (by omega) (by omega) w
    exact this
  · have h1 : n.log2 < 64 := (Nat.log2_lt h0).2 hn
    refine ⟨n.log2 + 1, by omega, fun l => ?_, ?_⟩
    · rw [Nat.lt_succ_iff, ← Nat.le_log2 h0]
    · have := lenU_nat n n.log2 (by omega) hn rfl w
      exact this
end Go.Proofs.YticjokhfjkebpaaGreatDoor

namespace Go.Proofs.YticjokhfjkebpaaGreatDoor
open Go.RowKit
/-- what Tile answers: none, or a list of its own -/
def TileP (w : World) (l : List (List UInt8)) (r : Ending) (w' : World) : Prop :=
  Below w.heap.size w w' ∧ if l = [] then r = .returned (.tuple #[.slice none 0 0, .int .i64 72]) else ∃ g, w.heap.size ≤ g ∧ r = .returned (.tuple #[.slice (some ⟨g, 0, none⟩) l.length l.length, .int .i64 0]) ∧ Row w' g l
theorem tileO_len {w : World} {q h : Nat} {L : List (List UInt8)} {F : Nat → Prop} (t : TrL w q h L F) (l i : Int) : (tileO L h l i).length ≤ 2000000 := by
  unfold tileO
  split
  · exact Til.rf_len L h t.h8 _ _
  · simp
end Go.Proofs.YticjokhfjkebpaaGreatDoor

namespace Go.Proofs.YticjokhfjkebpaaGreatDoor
open Go.RowKit
open Go.ChangeMaps (setBlock)
theorem nodup_inj {α β : Type} {f : α → β} : ∀ {l : List α}, (l.map f).Nodup → ∀ {x y : α}, x ∈ l → y ∈ l → f x = f y → x = y
  | [], _, _, _, hx, _, _ => by cases hx
  | a :: l, h, x, y, hx, hy, e => by
    rw [List.map_cons, List.nodup_cons] at h
    rcases List.mem_cons.1 hx with ex | mx
    · rcases List.mem_cons.1 hy with ey | my
      · rw [ex, ey]
      · exact absurd (List.mem_map.2 ⟨y, my, by rw [← e, ex]⟩) h.1
    · rcases List.mem_cons.1 hy with ey | my
      · exact absurd (List.mem_map.2 ⟨x, mx, by rw [e, ey]⟩) h.1
      · exact nodup_inj h.2 mx my e
/-- m[p] = v, of a place that it has not -/
theorem Mp.store {w : World} {b : Nat} {es : List ((Int × Int) × Value)} (h : Mp w b es) {p : Int × Int} (hp : InR p) (hno : ¬ has es p) (val : Value) :
    ∃ w', (Instr.mapUpdate 112 (.map (some b)) (.agg #[.int .i64 p.1, .int .i64 p.2]) val).run Tryz.prog w = .ok () w' ∧ Mp w' b (es ++ [(p, val)]) ∧ But b w w' ∧ w'.heap.size = w.heap.size := by
  obtain ⟨arr, clock, hb, h1, h2, h3, h4, h5⟩ := h
  obtain ⟨l, hl⟩ := keyPl hp
  rcases lawPl.find w hl arr.toList (Mp.keysOk h3 h5) with ⟨f1, f2⟩ | ⟨j, e0, f1, f2, f3⟩
  · refine ⟨setBlock w b (.map (arr.push ⟨kv p, val, clock⟩) (clock + 1)), ?_, ⟨_, _, setBlock_at hb, ?_, ?_, ?_, ?_, ?_⟩, (But.refl b w).setBlock _, by simp [setBlock]⟩
    · have := lawPl.check w false hl
      unfold kv at this f1
      simp [Instr.mapUpdate, run_underlying undMp, MapKept.run_getObj_map hb, this, f1, MapKept.run_setObj_map _ hb, setBlock, kv]
    · intro x hx
      rw [Array.toList_push, List.mem_append, List.mem_singleton] at hx
      rcases hx with hx | rfl
      · have := h1 x hx; omega
      · simp
    · simp only [Array.toList_push, List.map_append, List.map_cons, List.map_nil]
      refine List.nodup_append.2 ⟨h2, by simp, fun a ha c hc e1 => ?_⟩
      simp only [List.mem_singleton] at hc
      obtain ⟨x, hx, rfl⟩ := List.mem_map.1 ha
      have := h1 x hx
      omega
    · simp only [Array.toList_push, List.map_append, List.map_cons, List.map_nil, h3]
    · have := put_keys (p := p) (v := val) h4
      rwa [put_new hno] at this
    · intro x hx
      rcases List.mem_append.1 hx with hx | hx
      · exact h5 x hx
      · rw [List.mem_singleton.1 hx]; exact hp
  · exact absurd ⟨_, Mp.memE h3 (List.mem_of_getElem? f2) f3⟩ hno
theorem Mp.len {w : World} {b : Nat} {es : List ((Int × Int) × Value)} (h : Mp w b es) (ty : TypeId) : ∃ n : Nat, (Builtin.len_ #[112] ty #[.map (some b)]).run Tryz.prog w = .ok (.int .i64 (n : Int)) w := by
  obtain ⟨arr, clock, hb, _⟩ := h
  exact ⟨arr.size, by simp [Builtin.len_, run_underlying undMp, MapKept.run_getObj_map hb, goInt, Result.andThen]⟩
theorem make_map (w : World) (n : Nat) : (Instr.makeMap 112 (some (.int .i64 (n : Int)))).run Tryz.prog w = .ok (.map (some w.heap.size)) (w.alloc (.map #[] 0)) := by
  simp [Instr.makeMap, run_underlying undMp, asInt, asIntOf, Result.andThen]
/-- a map that is ranged over: the places that came out -/
def Itr (w : World) (b r : Nat) (es : List ((Int × Int) × Value)) (sk : List (Int × Int)) : Prop :=
  ∃ arr clock since seen c0, w.heap[b]? = some (.map arr clock) ∧ ((∀ x ∈ arr.toList, x.born < clock) ∧ (arr.toList.map (·.born)).Nodup ∧ arr.toList.map (fun e => (e.key, e.val)) = es.map (fun x => (kv x.1, x.2)) ∧ es.Pairwise (fun x y => x.1 ≠ y.1) ∧ ∀ x ∈ es, InR x.1) ∧
    w.heap[r]? = some (.mapIter (some b) since seen c0) ∧ (∀ x ∈ arr.toList, x.born < since) ∧ since ≤ c0 ∧ since ≤ clock ∧ ∀ e ∈ arr.toList, ∀ p, e.key = kv p → (seen.contains e.born = true ↔ p ∈ sk)
theorem Itr.heap {w w' : World} {b r : Nat} {es : List ((Int × Int) × Value)} {sk : List (Int × Int)} (h : Itr w b r es sk) (h1 : w'.heap[b]? = w.heap[b]?) (h2 : w'.heap[r]? = w.heap[r]?) : Itr w' b r es sk ∧ w'.rangeLeft b r = w.rangeLeft b r := by
  obtain ⟨arr, clock, since, seen, c0, g1, g2, g3, g4⟩ := h
  exact ⟨⟨arr, clock, since, seen, c0, h1.trans g1, g2, h2.trans g3, g4⟩, by unfold World.rangeLeft; rw [h1, h2]⟩
theorem Itr.lt {w : World} {b r : Nat} {es : List ((Int × Int) × Value)} {sk : List (Int × Int)} (h : Itr w b r es sk) : b < w.heap.size ∧ r < w.heap.size ∧ r ≠ b := by
  obtain ⟨arr, clock, since, seen, c0, g1, g2, g3, g4⟩ := h
  refine ⟨(Array.getElem?_eq_some_iff.1 g1).1, (Array.getElem?_eq_some_iff.1 g3).1, fun e => ?_⟩
  rw [e, g1] at g3
  cases g3
theorem Itr.start {w : World} {b : Nat} {es : List ((Int × Int) × Value)} (h : Mp w b es) : ∃ w', (Instr.range 112 (.map (some b))).run Tryz.prog w = .ok (.pointer (some ⟨w.heap.size, 0, none⟩)) w' ∧ Itr w' b w.heap.size es [] ∧ Below w.heap.size w w' ∧ w'.heap.size = w.heap.size + 1 := by
  have hlt := h.lt
  obtain ⟨arr, clock, hb, h1, h2, h3, h4, h5⟩ := h
  have ba := (Below.refl w.heap.size w).alloc (Nat.le_refl _) (.mapIter (some b) clock #[] clock)
  exact ⟨_, run_range_map w _ _ _ b arr clock undMp hb, ⟨arr, clock, clock, #[], clock, (ba.block b hlt).trans hb, ⟨h1, h2, h3, h4, h5⟩, heap_alloc_new w _, h1, Nat.le_refl _, Nat.le_refl _, fun e he p hp => by simp⟩, ba, size_alloc w _⟩
theorem Itr.next {w : World} {b r : Nat} {es : List ((Int × Int) × Value)} {sk : List (Int × Int)} (h : Itr w b r es sk) (ty : TypeId) :
    ((∀ x ∈ es, x.1 ∈ sk) ∧ (Instr.next (.pointer (some ⟨r, 0, none⟩)) false ty).run Tryz.prog w = .ok (.tuple #[.bool false]) w) ∨
    ∃ p v w', (p, v) ∈ es ∧ p ∉ sk ∧ InR p ∧ (Instr.next (.pointer (some ⟨r, 0, none⟩)) false ty).run Tryz.prog w = .ok (.tuple #[.bool true, .agg #[.int .i64 p.1, .int .i64 p.2], v]) w' ∧ But r w w' ∧ w'.heap.size = w.heap.size ∧ Itr w' b r es (sk ++ [p]) ∧ w'.rangeLeft b r < w.rangeLeft b r ∧
      (Instr.entry (.pointer (some ⟨r, 0, none⟩))).run Tryz.prog w' = .ok (.tuple #[.agg #[.int .i64 p.1, .int .i64 p.2], v]) w' := by
  obtain ⟨hbl, hrl, hrb⟩ := h.lt
  obtain ⟨arr, clock, since, seen, c0, hb, ⟨h1, h2, h3, h4, h5⟩, hr, hold, hsc, hsk, hdone⟩ := h
  rcases run_next_at (P := Tryz.prog) w ty r b since c0 seen arr clock hr hb hold hsc with ⟨h0, hrun⟩ | ⟨e, he, w1, hal, hrun⟩
  · refine .inl ⟨fun x hx => ?_, hrun⟩
    have hm : (kv x.1, x.2) ∈ arr.toList.map (fun e => (e.key, e.val)) := by rw [h3]; exact List.mem_map.2 ⟨x, hx, rfl⟩
    obtain ⟨e, he, hee⟩ := List.mem_map.1 hm
    exact (hdone e he x.1 (congrArg Prod.fst hee)).1 (all_seen arr seen h0 e he)
  · obtain ⟨hem, hes⟩ := mem_left he
    have hm : (e.key, e.val) ∈ es.map (fun x => (kv x.1, x.2)) := by rw [← h3]; exact List.mem_map.2 ⟨e, hem, rfl⟩
    obtain ⟨x, hx, hxe⟩ := List.mem_map.1 hm
    have hk : e.key = kv x.1 := (congrArg Prod.fst hxe).symm
    have hv : e.val = x.2 := (congrArg Prod.snd hxe).symm
    have hr1 : w1.heap[r]? = some (.mapIter (some b) since seen c0) := by rcases hal with rfl | rfl <;> exact hr
    have hb1 : w1.heap[b]? = some (.map arr clock) := by rcases hal with rfl | rfl <;> exact hb
    have bt : But r w1 (setBlock w1 r (.mapIter (some b) since (seen.push e.born) clock)) := (But.refl r w1).setBlock _
    have bt' : But r w (setBlock w1 r (.mapIter (some b) since (seen.push e.born) clock)) := by
      rcases hal with rfl | rfl
      · exact bt
      · exact (But.refl r w).drew.trans bt
    have hr2 := setBlock_at (o' := .mapIter (some b) since (seen.push e.born) clock) hr1
    have hb2 := (bt'.block b hbl (Ne.symm hrb)).trans hb
    have hent := run_entry_at (P := Tryz.prog) _ r b since seen arr clock e hr2 hb2 hem h2
    rw [hk, hv] at hrun hent
    refine .inr ⟨x.1, x.2, _, hx, fun hin => ?_, h5 x hx, hrun, bt', ?_, ⟨arr, clock, since, seen.push e.born, clock, hb2, ⟨h1, h2, h3, h4, h5⟩, hr2, hold, hsk, hsk, fun e' he' p hp => ?_⟩, ?_, hent⟩
    · rw [(hdone e hem x.1 hk).2 hin] at hes
      cases hes
    · rcases hal with rfl | rfl <;> simp [setBlock]
    · rw [contains_push, Bool.or_eq_true, List.mem_append, List.mem_singleton, hdone e' he' p hp]
      constructor
      · rintro (h | h)
        · exact .inl h
        · have hbe : e'.born = e.born := eq_of_beq h
          have : e' = e := nodup_inj h2 he' hem hbe
          rw [this, hk] at hp
          exact .inr (kv_inj hp).symm
      · rintro (h | h)
        · exact .inl h
        · right
          subst h
          have hm1 : e'.key = e.key := hp.trans hk.symm
          have : e' = e := by
            have hn : (arr.toList.map (·.key)).Nodup := by
              have e1 : arr.toList.map (·.key) = es.map (fun x => kv x.1) := by
                have := congrArg (List.map Prod.fst) h3
                rw [List.map_map, List.map_map] at this
                exact this
              rw [e1]
              exact List.pairwise_map.2 (h4.imp fun {a b} hab e => hab (kv_inj e))
            exact nodup_inj hn he' hem hm1
          rw [this]; simp
    · have l1 : w.rangeLeft b r = (leftOf arr seen).size := by unfold World.rangeLeft; rw [hb, hr]
      have l2 : (setBlock w1 r (.mapIter (some b) since (seen.push e.born) clock)).rangeLeft b r = (leftOf arr (seen.push e.born)).size := by unfold World.rangeLeft; rw [hb2, hr2]
      rw [l1, l2]
      exact left_shrinks arr seen e he
end Go.Proofs.YticjokhfjkebpaaGreatDoor

namespace Go.Proofs.YticjokhfjkebpaaGreatDoor
open Go.RowKit
theorem own_g {g n c k : Nat} (h : (Value.slice (some ⟨g, 0, none⟩) n c).ownBlock = some k) : g = k := by cases h; rfl
/-- a tree that is cloned: the places sk are done -/
structure Cl (w0 w : World) (q b h s : Nat) (es : List ((Int × Int) × Value)) (R : Int × Int → List (List UInt8)) (B r q2 b2 : Nat) (es2 : List ((Int × Int) × Value)) (sk : List (Int × Int)) : Prop where
  src : Tr w q b h s es R
  it : Itr w b r es sk
  row : w.heap[q2]? = some (.cells #[.int .i64 (h : Int), .int .i64 (s : Int), .map (some b2)] 114 (0, 0))
  mp : Mp w b2 es2
  ks : ∀ p, has es2 p ↔ p ∈ sk
  el : ∀ p v, (p, v) ∈ es2 → Own w B v (svs (R p)) ∧ ∀ k, v.ownBlock = some k → k ≠ q2 ∧ k ≠ b2 ∧ k ≠ r
  apart : ∀ p v p' v' k, (p, v) ∈ es2 → (p', v') ∈ es2 → p ≠ p' → v.ownBlock = some k → v'.ownBlock ≠ some k
  ne : q2 ≠ b2 ∧ r ≠ q2 ∧ r ≠ b2
  lo : B ≤ q2 ∧ B ≤ b2 ∧ B ≤ r
  bB : ∀ k, Fb q b es k → k < B
  bel : Below B w0 w
  szB : B ≤ w.heap.size
theorem Cl.step {w0 w w1 w3 w4 : World} {q b h s : Nat} {es : List ((Int × Int) × Value)} {R : Int × Int → List (List UInt8)} {B r q2 b2 g : Nat} {es2 : List ((Int × Int) × Value)} {sk : List (Int × Int)} (C : Cl w0 w q b h s es R B r q2 b2 es2 sk) {p : Int × Int} (hp : p ∉ sk)
    (bt : But r w w1) (sz1 : w1.heap.size = w.heap.size) (it1 : Itr w1 b r es (sk ++ [p])) (b3 : Below w1.heap.size w1 w3) (hR : Row w3 g (R p)) (hg : w1.heap.size ≤ g) (hlen : (R p).length ≤ 2000000)
    (mp4 : Mp w4 b2 (es2 ++ [(p, .slice (some ⟨g, 0, none⟩) (R p).length (R p).length)])) (bt4 : But b2 w3 w4) (sz4 : w4.heap.size = w3.heap.size) :
    Cl w0 w4 q b h s es R B r q2 b2 (es2 ++ [(p, .slice (some ⟨g, 0, none⟩) (R p).length (R p).length)]) (sk ++ [p]) ∧ w4.rangeLeft b r = w1.rangeLeft b r := by
  obtain ⟨n1, n2, n3⟩ := C.ne
  obtain ⟨l1, l2, l3⟩ := C.lo
  have hs3 := b3.size
  have hq2 : q2 < w.heap.size := lt_of_heap C.row
  have hb2 := C.mp.lt
  obtain ⟨hbl, hrl, hrb⟩ := C.it.lt
  have hgl := hR.lt
  have blk : ∀ k, k < w.heap.size → k ≠ r → k ≠ b2 → w4.heap[k]? = w.heap[k]? := fun k hk h1 h2 =>
    (bt4.block k (by omega) h2).trans ((b3.block k (by omega)).trans (bt.block k hk h1))
  have hbF : b < B := C.bB b (.inr (.inl rfl))
  have hbb : w4.heap[b]? = w1.heap[b]? := (bt4.block b (by omega) (by omega)).trans (b3.block b (by omega))
  have hrr : w4.heap[r]? = w1.heap[r]? := (bt4.block r (by omega) n3).trans (b3.block r (by omega))
  obtain ⟨it4, rl⟩ := it1.heap hbb hrr
  have hnew : Own w4 B (.slice (some ⟨g, 0, none⟩) (R p).length (R p).length) (svs (R p)) := by
    have o := (hR.own (by omega)).from (B := B) (fun k hk => by have := own_g hk; have := C.szB; omega)
    exact o.but bt4 (fun e => by have := own_g e; omega)
  refine ⟨⟨?_, it4, (blk q2 hq2 (Ne.symm n2) n1).trans C.row, mp4, fun p' => ?_, ?_, ?_, C.ne, C.lo, C.bB, ?_, by have := C.szB; omega⟩, rl⟩
  · refine C.src.keep (S := fun k => B ≤ k) ⟨?_, ?_, ?_, ?_, fun k hk hS => blk k hk (by omega) (by omega)⟩ (fun k hk e => by have := C.bB k hk; omega)
    · exact bt4.os.trans (b3.os.trans bt.os)
    · exact bt4.tape.trans (b3.tape.trans bt.tape)
    · exact bt4.output.trans (b3.output.trans bt.output)
    · omega
  · rw [List.mem_append, List.mem_singleton, ← C.ks p']
    constructor
    · rintro ⟨v, hv⟩
      rcases List.mem_append.1 hv with hv | hv
      · exact .inl ⟨v, hv⟩
      · rw [List.mem_singleton] at hv; exact .inr (congrArg Prod.fst hv)
    · rintro (⟨v, hv⟩ | rfl)
      · exact ⟨v, List.mem_append.2 (.inl hv)⟩
      · exact ⟨_, List.mem_append.2 (.inr (List.mem_singleton.2 rfl))⟩
  · intro p' v hv
    rcases List.mem_append.1 hv with hv | hv
    · obtain ⟨e1, e2⟩ := C.el p' v hv
      exact ⟨e1.kept (by omega) fun k hk => blk k (e1.ltS k hk) (e2 k hk).2.2 (e2 k hk).2.1, e2⟩
    · rw [List.mem_singleton] at hv
      obtain ⟨rfl, rfl⟩ := Prod.mk.injEq .. ▸ hv
      exact ⟨hnew, fun k hk => by have := own_g hk; omega⟩
  · have other : ∀ p' v k, (p', v) ∈ es2 → v.ownBlock = some k → g ≠ k := fun p' v k hv hk => by
      have := (C.el p' v hv).1.ltS k hk
      omega
    intro p1 v1 p2 v2 k h1 h2 hne hk
    rcases List.mem_append.1 h1 with m1 | m1
    · rcases List.mem_append.1 h2 with m2 | m2
      · exact C.apart p1 v1 p2 v2 k m1 m2 hne hk
      · rw [List.mem_singleton] at m2
        have e2 := congrArg Prod.snd m2
        simp only at e2
        rw [e2]
        exact fun e => other p1 v1 k m1 hk (own_g e)
    · rw [List.mem_singleton] at m1
      have e1 := congrArg Prod.snd m1
      simp only at e1
      rw [e1] at hk
      have hk := own_g hk
      rcases List.mem_append.1 h2 with m2 | m2
      · exact fun e => other p2 v2 k m2 e hk
      · rw [List.mem_singleton] at m2
        exact absurd ((congrArg Prod.fst m1).trans (congrArg Prod.fst m2).symm) hne
  · refine C.bel.trans ⟨bt4.os.trans (b3.os.trans bt.os), bt4.tape.trans (b3.tape.trans bt.tape), bt4.output.trans (b3.output.trans bt.output), by omega, fun k hk => ?_⟩
    have := C.szB
    exact blk k (by omega) (by omega) (by omega)
/-- all are done -/
theorem Cl.done {w0 w : World} {q b h s : Nat} {es : List ((Int × Int) × Value)} {R : Int × Int → List (List UInt8)} {B r q2 b2 : Nat} {es2 : List ((Int × Int) × Value)} {sk : List (Int × Int)} (C : Cl w0 w q b h s es R B r q2 b2 es2 sk) (hall : ∀ x ∈ es, x.1 ∈ sk) :
    Tr w q2 b2 h s es2 R ∧ ∀ k, Fb q2 b2 es2 k → B ≤ k := by
  refine ⟨⟨C.row, C.mp, C.ne.1, fun p v hv => ⟨(C.el p v hv).1.mono (Nat.zero_le _), fun k hk => ⟨((C.el p v hv).2 k hk).1, ((C.el p v hv).2 k hk).2.1⟩⟩, fun p hp => ?_, C.apart⟩, fun k hk => ?_⟩
  · exact C.src.no p fun ⟨v, hv⟩ => hp ((C.ks p).2 (hall _ hv))
  · rcases hk with rfl | rfl | ⟨p, v, hv, hk⟩
    · exact C.lo.1
    · exact C.lo.2.1
    · exact (C.el p v hv).1.ge k hk
end Go.Proofs.YticjokhfjkebpaaGreatDoor

namespace Go.Proofs.YticjokhfjkebpaaGreatDoor
open Go.RowKit
theorem S32.below {q g : Nat} {x y z : Value} {w w' : World} {B : Nat} (h : S32 q g x y z w) (hb : Below B w w') (h1 : q < B) (h2 : g < B) : S32 q g x y z w' := h.heap (hb.block q h1) (hb.block g h2)
def S30 (q : Nat) (x y z : Value) (w : World) : Prop := w.cell? ⟨q, 0, none⟩ = some x ∧ w.cell? ⟨q, 1, none⟩ = some y ∧ w.cell? ⟨q, 2, none⟩ = some z
theorem S30.below {q : Nat} {x y z : Value} {w w' : World} {B : Nat} (h : S30 q x y z w) (hb : Below B w w') (h1 : q < B) : S30 q x y z w' := ⟨(hb.cell (p := ⟨q, 0, none⟩) h1).trans h.1, (hb.cell (p := ⟨q, 1, none⟩) h1).trans h.2.1, (hb.cell (p := ⟨q, 2, none⟩) h1).trans h.2.2⟩
/-- how many entries a map has, in whatever world it lies -/
theorem Mp.lenN {w : World} {b : Nat} {es : List ((Int × Int) × Value)} (h : Mp w b es) : ∃ n : Nat, ∀ w' : World, w'.heap[b]? = w.heap[b]? → (Builtin.len_ #[112] 3 #[.map (some b)]).run Tryz.prog w' = .ok (.int .i64 (n : Int)) w' := by
  obtain ⟨arr, clock, hb, _⟩ := h
  exact ⟨arr.size, fun w' hw => by simp [Builtin.len_, run_underlying undMp, MapKept.run_getObj_map (hw.trans hb), goInt, Result.andThen]⟩
def SL (q : Nat) (x y z : Value) (b nl : Nat) (w : World) : Prop := w.cell? ⟨q, 0, none⟩ = some x ∧ w.cell? ⟨q, 1, none⟩ = some y ∧ w.cell? ⟨q, 2, none⟩ = some z ∧ (Builtin.len_ #[112] 3 #[.map (some b)]).run Tryz.prog w = .ok (.int .i64 (nl : Int)) w
end Go.Proofs.YticjokhfjkebpaaGreatDoor
