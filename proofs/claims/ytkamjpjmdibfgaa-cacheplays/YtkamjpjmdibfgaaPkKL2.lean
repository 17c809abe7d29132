import Derived.Test.YtkamjpjmdibfgaaPkKL1
import Derived.Deep.CutRange
import Derived.Deep.DeepCutAuto
import Derived.Test.YtkamjpjmdibfgaaPkKB1
import Derived.Deep.LoopGhost
/- Layer 15, the law: texts that CacheNests makes -/
namespace Go.Proofs.Ytkamjpjmdibfgaa
open Go.RowKit Go.Maps
namespace Kc
theorem conv_row (w : World) (g : Nat) (bs : List UInt8) (cap : Nat) (hr : w.heap[g]? = some (.cells (bv bs).toArray 5 (0, 0))) (hc : bs.length ≤ cap) (hc2 : cap ≤ maxLen) (hth : w.there g 0 cap) :
    (convert 55 9 (.slice (some ⟨g, 0, none⟩) bs.length cap)).run Try.prog w = .ok (.string ⟨bs.toArray⟩) w := by
  have ho : OwnB w 0 (.slice (some ⟨g, 0, none⟩) bs.length cap) bs := .inr ⟨g, cap, by simp [bv], Nat.zero_le _, by simpa [bv] using hc, hc2, fun j v hj => by
    obtain ⟨hl, hv⟩ := List.getElem?_eq_some_iff.1 hj
    rw [cell_of_row _ _ _ _ _ _ hr]
    simp only [Nat.zero_add]
    rw [List.getElem?_toArray]
    exact hj, hth, lt_of_heap hr⟩
  exact conv_own ho (by simp)
theorem conv_one (w : World) (x : UInt8) (n : Int) (hn : n = (x.toNat : Int)) : (convert 55 9 (.slice (some ⟨w.heap.size, 0, none⟩) 1 1)).run Try.prog (w.alloc (.cells #[.int .u8 n] 5)) = .ok (.string ⟨#[x]⟩) (w.alloc (.cells #[.int .u8 n] 5)) := by
  subst hn
  have hr : (w.alloc (.cells #[.int .u8 (x.toNat : Int)] 5)).heap[w.heap.size]? = some (.cells (bv [x]).toArray 5 (0, 0)) := heap_alloc_new w _
  exact conv_row _ _ [x] 1 hr (by simp) (by simp [maxLen]) (there_of_row hr 0 1 (by simp [bv]))
theorem make_zero (w : World) (p : Nat) (hp : p ≤ 1000) :
    (Instr.makeSlice 55 (.int .i64 (p : Int)) (.int .i64 (p : Int))).run Try.prog w = .ok (.slice (some ⟨w.heap.size, 0, none⟩) p p) (w.alloc (.cells (bv (List.replicate p 0)).toArray 5)) := by
  obtain ⟨i0, hi, hz0, hz1, hz2⟩ := info_parts info5'
  have h := run_make (P := Try.prog) w 55 5 i0 (.int .u8 0) Try.underlying55 hi hz0 .i64 .i64 (p : Int) (p : Int) (by omega) (by omega) (by rw [hz2]; omega) (by omega)
  rw [Int.toNat_natCast, hz1, Nat.mul_one] at h
  have e : madeCells (Value.int .u8 0).cells p = (bv (List.replicate p 0)).toArray := by
    apply Array.ext'
    rw [show (madeCells (Value.int .u8 0).cells p).toList = List.replicate p (.int .u8 0) from toList_madeCells_one _ _]
    simp [bv]
  rw [e] at h
  exact h
theorem conv_zero (w : World) (p : Nat) (hp : p ≤ 1000) (C : Array Value) (hC : C = (bv (List.replicate p 0)).toArray) : (convert 55 9 (.slice (some ⟨w.heap.size, 0, none⟩) p p)).run Try.prog (w.alloc (.cells C 5)) = .ok (.string ⟨(List.replicate p 0).toArray⟩) (w.alloc (.cells C 5)) := by
  subst hC
  have hr : (w.alloc (.cells (bv (List.replicate p 0)).toArray 5)).heap[w.heap.size]? = some (.cells (bv (List.replicate p 0)).toArray 5 (0, 0)) := heap_alloc_new w _
  have := conv_row _ _ (List.replicate p 0) p hr (by simp) (by simp [maxLen]; omega) (there_of_row hr 0 p (by simp [bv]))
  rwa [List.length_replicate] at this
/-- the two caches while CacheNests asks -/
def Ns (w : World) (a b B C k : Nat) (w' : World) : Prop := ∃ gA gB LA LB fA mA oA fB mB oB, Cd w w' a gA B (2 * k) LA fA mA oA b gB C (2 * k) LB fB mB oB ∧ An LA ∧ An LB ∧ Nst LA LB ∧ fA ≤ fB
end Kc
end Go.Proofs.Ytkamjpjmdibfgaa

/- Layer 15, the law: CacheNests: the keys of both -/
namespace Go.Proofs.Ytkamjpjmdibfgaa
open Go.RowKit Go.Maps
namespace Kc
def startsR (n : Nat) : Code → Bool
  | .region m _ _ => m == n
  | .seq a _ => startsR n a
  | _ => false
def fromR (n : Nat) : Code → Option Code
  | .seq a b => if startsR n a then some (.seq a b) else (match fromR n a with | some c => some c | none => fromR n b)
  | .block _ c => fromR n c
  | .loop c => fromR n c
  | .scope c => fromR n c
  | .cond _ a b => (match fromR n a with | some c => some c | none => fromR n b)
  | .region m x d => if m == n then some (.region m x d) else none
  | _ => none
end Kc
end Go.Proofs.Ytkamjpjmdibfgaa

/- Layer 15, CacheBounds: all keys asked for -/
namespace Go.Proofs.Ytkamjpjmdibfgaa
open Go.RowKit Go.Maps
namespace Kc
/-- the cache, whatever is there, and the three lists -/
def Bj (w0 w : World) (a : Nat) (g : Option Nat) (B c o : Nat) (vk vv vp : Value) (K V : List (List UInt8)) (P : List Nat) : Prop := ∃ L f m, Bd w0 w a g B c L f m o vk vv vp K V P
end Kc
end Go.Proofs.Ytkamjpjmdibfgaa

/- Layer 15, CacheBounds: from the tally on -/
namespace Go.Proofs.Ytkamjpjmdibfgaa
open Go.RowKit Go.Maps
namespace Kc
/-- with the step in memory -/
structure Be (w0 w : World) (a : Nat) (g : Option Nat) (B c : Nat) (L : List En) (f m o : Nat) (vk vv vp : Value) (K V : List (List UInt8)) (P : List Nat) (q : Nat) (fl : Bool) (kd nn : Int) (KB VB : ByteArray) : Prop where
  bd : Bd w0 w a g B c L f m o vk vv vp K V P
  rq : w.heap[q]? = some (.cells #[.bool fl, .int .i64 kd, .int .i64 nn, .string KB, .string VB] 35 (0, 0))
  nf : ¬ Fg a g L q
  nk : vk.ownBlock ≠ some q
  nv : vv.ownBlock ≠ some q
  np : vp.ownBlock ≠ some q
theorem Be.below {w0 w : World} {a : Nat} {g : Option Nat} {B c : Nat} {L : List En} {f m o : Nat} {vk vv vp : Value} {K V : List (List UInt8)} {P : List Nat} {q : Nat} {fl : Bool} {kd nn : Int} {KB VB : ByteArray} {w' : World} (h : Be w0 w a g B c L f m o vk vv vp K V P q fl kd nn KB VB) (hb : Below w.heap.size w w') : Be w0 w' a g B c L f m o vk vv vp K V P q fl kd nn KB VB :=
  ⟨h.bd.below hb, (hb.block q (lt_of_heap h.rq)).trans h.rq, h.nf, h.nk, h.nv, h.np⟩
theorem Be.drew {w0 w : World} {a : Nat} {g : Option Nat} {B c : Nat} {L : List En} {f m o : Nat} {vk vv vp : Value} {K V : List (List UInt8)} {P : List Nat} {q : Nat} {fl : Bool} {kd nn : Int} {KB VB : ByteArray} (h : Be w0 w a g B c L f m o vk vv vp K V P q fl kd nn KB VB) : Be w0 w.drew a g B c L f m o vk vv vp K V P q fl kd nn KB VB := ⟨h.bd.drew, h.rq, h.nf, h.nk, h.nv, h.np⟩
theorem Be.opd {w0 w : World} {a : Nat} {g : Option Nat} {B c : Nat} {L : List En} {f m o : Nat} {vk vv vp : Value} {K V : List (List UInt8)} {P : List Nat} {q : Nat} {fl : Bool} {kd nn : Int} {KB VB : ByteArray} {w' : World} {g' : Option Nat} {L' : List En} {f' m' o' : Nat} (h : Be w0 w a g B c L f m o vk vv vp K V P q fl kd nn KB VB) (k : Op w a g B c L w' g' L' f' m' o') (hb : Bm L' K V P) : Be w0 w' a g' B (c + 1) L' f' m' o' vk vv vp K V P q fl kd nn KB VB := by
  refine ⟨h.bd.opd k hb, (k.kp.block q (lt_of_heap h.rq) h.nf).trans h.rq, fun hf => ?_, h.nk, h.nv, h.np⟩
  rcases k.fg q hf with h1 | h1
  · exact h.nf h1
  · have := lt_of_heap h.rq
    omega
theorem Be.cs {w0 w : World} {a : Nat} {g : Option Nat} {B c : Nat} {L : List En} {f m o : Nat} {vk vv vp : Value} {K V : List (List UInt8)} {P : List Nat} {q : Nat} {fl : Bool} {kd nn : Int} {KB VB : ByteArray} (h : Be w0 w a g B c L f m o vk vv vp K V P q fl kd nn KB VB) : w.cell? ⟨q, 0, none⟩ = some (.bool fl) ∧ w.cell? ⟨q, 1, none⟩ = some (.int .i64 kd) ∧ w.cell? ⟨q, 2, none⟩ = some (.int .i64 nn) ∧ w.cell? ⟨q, 3, none⟩ = some (.string KB) ∧ w.cell? ⟨q, 4, none⟩ = some (.string VB) := by
  have h := h.rq
  refine ⟨?_, ?_, ?_, ?_, ?_⟩ <;> (rw [cell_of_row _ _ _ _ _ _ h]; rfl)
/-- what is left behind a round -/
def Bj' (w0 w : World) (a B c : Nat) (vk vv vp : Value) (K : List (List UInt8)) (N : Nat) : Prop := ∃ g L f m o V P, Bd w0 w a g B c L f m o vk vv vp K V P ∧ K.length = N
end Kc
end Go.Proofs.Ytkamjpjmdibfgaa
