import Derived.Test.YticjokhfjkebpaaGreatDoorPkTL27
import Derived.Deep.CutRange
namespace Go.Proofs.YticjokhfjkebpaaGreatDoor
open Go.RowKit
theorem own_g {g n c k : Nat} (h : (Value.slice (some ⟨g, 0, none⟩) n c).ownBlock = some k) : g = k := by cases h; rfl
/-- a tree that is cloned: the places sk are done -/
structure Cl (w0 w : World) (q b h s : Nat) (es : List ((Int × Int) × Value)) (R : Int × Int → List (List UInt8)) (B r q2 b2 : Nat) (es2 : List ((Int × Int) × Value)) (sk : List (Int × Int)) : Prop where
  src : Tr w q b h s es R
  it : Itr w b r es sk
  row : w.heap[q2]? = some (.cells #[.int .i64 (h : Int), .int .i64 (s : Int), .map (some b2)] 114 (0, 0))
  mp : Mp w b2 es2
  ks : ∀ p, has es2 p ↔ p ∈ sk
  el : ∀ p v, (p, v) ∈ es2 → Own w B v (svs (R p)) ∧ ∀ k, v.ownBlock = some k → k ≠ q2 ∧ k ≠ b2 ∧ k ≠ r
  apart : ∀ p v p' v' k, (p, v) ∈ es2 → (p', v') ∈ es2 → p ≠ p' → v.ownBlock = some k → v'.ownBlock ≠ some k
  ne : q2 ≠ b2 ∧ r ≠ q2 ∧ r ≠ b2
  lo : B ≤ q2 ∧ B ≤ b2 ∧ B ≤ r
  bB : ∀ k, Fb q b es k → k < B
  bel : Below B w0 w
  szB : B ≤ w.heap.size
theorem Cl.step {w0 w w1 w3 w4 : World} {q b h s : Nat} {es : List ((Int × Int) × Value)} {R : Int × Int → List (List UInt8)} {B r q2 b2 g : Nat} {es2 : List ((Int × Int) × Value)} {sk : List (Int × Int)} (C : Cl w0 w q b h s es R B r q2 b2 es2 sk) {p : Int × Int} (hp : p ∉ sk)
    (bt : But r w w1) (sz1 : w1.heap.size = w.heap.size) (it1 : Itr w1 b r es (sk ++ [p])) (b3 : Below w1.heap.size w1 w3) (hR : Row w3 g (R p)) (hg : w1.heap.size ≤ g) (hlen : (R p).length ≤ 2000000)
    (mp4 : Mp w4 b2 (es2 ++ [(p, .slice (some ⟨g, 0, none⟩) (R p).length (R p).length)])) (bt4 : But b2 w3 w4) (sz4 : w4.heap.size = w3.heap.size) :
    Cl w0 w4 q b h s es R B r q2 b2 (es2 ++ [(p, .slice (some ⟨g, 0, none⟩) (R p).length (R p).length)]) (sk ++ [p]) ∧ w4.rangeLeft b r = w1.rangeLeft b r := by
  obtain ⟨n1, n2, n3⟩ := C.ne
  obtain ⟨l1, l2, l3⟩ := C.lo
  have hs3 := b3.size
  have hq2 : q2 < w.heap.size := lt_of_heap C.row
  have hb2 := C.mp.lt
  obtain ⟨hbl, hrl, hrb⟩ := C.it.lt
  have hgl := hR.lt
  have blk : ∀ k, k < w.heap.size → k ≠ r → k ≠ b2 → w4.heap[k]? = w.heap[k]? := fun k hk h1 h2 =>
    (bt4.block k (by omega) h2).trans ((b3.block k (by omega)).trans (bt.block k hk h1))
  have hbF : b < B := C.bB b (.inr (.inl rfl))
  have hbb : w4.heap[b]? = w1.heap[b]? := (bt4.block b (by omega) (by omega)).trans (b3.block b (by omega))
  have hrr : w4.heap[r]? = w1.heap[r]? := (bt4.block r (by omega) n3).trans (b3.block r (by omega))
  obtain ⟨it4, rl⟩ := it1.heap hbb hrr
  have hnew : Own w4 B (.slice (some ⟨g, 0, none⟩) (R p).length (R p).length) (svs (R p)) := by
    have o := (hR.own (by omega)).from (B := B) (fun k hk => by have := own_g hk; have := C.szB; omega)
    exact o.but bt4 (fun e => by have := own_g e; omega)
  refine ⟨⟨?_, it4, (blk q2 hq2 (Ne.symm n2) n1).trans C.row, mp4, fun p' => ?_, ?_, ?_, C.ne, C.lo, C.bB, ?_, by have := C.szB; omega⟩, rl⟩
  · refine C.src.keep (S := fun k => B ≤ k) ⟨?_, ?_, ?_, ?_, fun k hk hS => blk k hk (by omega) (by omega)⟩ (fun k hk e => by have := C.bB k hk; omega)
    · exact bt4.os.trans (b3.os.trans bt.os)
    · exact bt4.tape.trans (b3.tape.trans bt.tape)
    · exact bt4.output.trans (b3.output.trans bt.output)
    · omega
  · rw [List.mem_append, List.mem_singleton, ← C.ks p']
    constructor
    · rintro ⟨v, hv⟩
      rcases List.mem_append.1 hv with hv | hv
      · exact .inl ⟨v, hv⟩
      · rw [List.mem_singleton] at hv; exact .inr (congrArg Prod.fst hv)
    · rintro (⟨v, hv⟩ | rfl)
      · exact ⟨v, List.mem_append.2 (.inl hv)⟩
      · exact ⟨_, List.mem_append.2 (.inr (List.mem_singleton.2 rfl))⟩
  · intro p' v hv
    rcases List.mem_append.1 hv with hv | hv
    · obtain ⟨e1, e2⟩ := C.el p' v hv
      exact ⟨e1.kept (by omega) fun k hk => blk k (e1.ltS k hk) (e2 k hk).2.2 (e2 k hk).2.1, e2⟩
    · rw [List.mem_singleton] at hv
      obtain ⟨rfl, rfl⟩ := Prod.mk.injEq .. ▸ hv
      exact ⟨hnew, fun k hk => by have := own_g hk; omega⟩
  · have other : ∀ p' v k, (p', v) ∈ es2 → v.ownBlock = some k → g ≠ k := fun p' v k hv hk => by
      have := (C.el p' v hv).1.ltS k hk
      omega
    intro p1 v1 p2 v2 k h1 h2 hne hk
    rcases List.mem_append.1 h1 with m1 | m1
    · rcases List.mem_append.1 h2 with m2 | m2
      · exact C.apart p1 v1 p2 v2 k m1 m2 hne hk
      · rw [List.mem_singleton] at m2
        have e2 := congrArg Prod.snd m2
        simp only at e2
        rw [e2]
        exact fun e => other p1 v1 k m1 hk (own_g e)
    · rw [List.mem_singleton] at m1
      have e1 := congrArg Prod.snd m1
      simp only at e1
      rw [e1] at hk
      have hk := own_g hk
      rcases List.mem_append.1 h2 with m2 | m2
      · exact fun e => other p2 v2 k m2 e hk
      · rw [List.mem_singleton] at m2
        exact absurd ((congrArg Prod.fst m1).trans (congrArg Prod.fst m2).symm) hne
  · refine C.bel.trans ⟨bt4.os.trans (b3.os.trans bt.os), bt4.tape.trans (b3.tape.trans bt.tape), bt4.output.trans (b3.output.trans bt.output), by omega, fun k hk => ?_⟩
    have := C.szB
    exact blk k (by omega) (by omega) (by omega)
/-- all are done -/
theorem Cl.done {w0 w : World} {q b h s : Nat} {es : List ((Int × Int) × Value)} {R : Int × Int → List (List UInt8)} {B r q2 b2 : Nat} {es2 : List ((Int × Int) × Value)} {sk : List (Int × Int)} (C : Cl w0 w q b h s es R B r q2 b2 es2 sk) (hall : ∀ x ∈ es, x.1 ∈ sk) :
    Tr w q2 b2 h s es2 R ∧ ∀ k, Fb q2 b2 es2 k → B ≤ k := by
  refine ⟨⟨C.row, C.mp, C.ne.1, fun p v hv => ⟨(C.el p v hv).1.mono (Nat.zero_le _), fun k hk => ⟨((C.el p v hv).2 k hk).1, ((C.el p v hv).2 k hk).2.1⟩⟩, fun p hp => ?_, C.apart⟩, fun k hk => ?_⟩
  · exact C.src.no p fun ⟨v, hv⟩ => hp ((C.ks p).2 (hall _ hv))
  · rcases hk with rfl | rfl | ⟨p, v, hv, hk⟩
    · exact C.lo.1
    · exact C.lo.2.1
    · exact (C.el p v hv).1.ge k hk
end Go.Proofs.YticjokhfjkebpaaGreatDoor
