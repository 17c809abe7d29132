import Derived.Test.YtkamjpjmdibfgaaPkKA1
import Derived.Test.YtkamjpjmdibfgaaPkDVG
import Derived.Maps.OwnSet
import Derived.Maps.Ext
/- Layer 15, the program: the order -/
namespace Go.Proofs.Ytkamjpjmdibfgaa
open Go.RowKit Go.Maps
namespace Kc
def pv : Option Nat → Value
  | none => .pointer none
  | some b => .pointer (some ⟨b, 0, none⟩)
def hd (L : List En) (z : Option Nat) : Option Nat := match L with | [] => z | e :: _ => some e.b
def ls (z : Option Nat) : List En → Option Nat
  | [] => z
  | e :: r => ls (some e.b) r
def pl (w : World) (e : En) (nw ol : Option Nat) : Prop := w.heap[e.b]? = some (.cells #[.string ⟨e.k.toArray⟩, .string ⟨e.v.toArray⟩, .int .i64 (e.p : Int), pv nw, pv ol] 72 (0, 0))
def Seg (w : World) : Option Nat → List En → Option Nat → Prop
  | _, [], _ => True
  | nw, e :: r, ol => pl w e nw (hd r ol) ∧ Seg w (some e.b) r ol
theorem ls_snoc (z : Option Nat) (X : List En) (e : En) : ls z (X ++ [e]) = some e.b := by
  induction X generalizing z with
  | nil => rfl
  | cons x X ih => exact ih _
theorem ls_append (z : Option Nat) (X Y : List En) : ls z (X ++ Y) = ls (ls z X) Y := by
  induction X generalizing z with
  | nil => rfl
  | cons x X ih => exact ih _
theorem hd_append (X Y : List En) (z : Option Nat) : hd (X ++ Y) z = hd X (hd Y z) := by cases X <;> rfl
theorem seg_append {w : World} {nw ol : Option Nat} {X Y : List En} : Seg w nw (X ++ Y) ol ↔ Seg w nw X (hd Y ol) ∧ Seg w (ls nw X) Y ol := by
  induction X generalizing nw with
  | nil => simp [Seg, ls]
  | cons x X ih => simp only [List.cons_append, Seg, ih, ls, hd_append, and_assoc]
theorem seg_kept {w w' : World} {L : List En} (hk : ∀ e ∈ L, w'.heap[e.b]? = w.heap[e.b]?) {nw ol : Option Nat} (h : Seg w nw L ol) : Seg w' nw L ol := by
  induction L generalizing nw with
  | nil => trivial
  | cons x X ih => exact ⟨(hk x (List.mem_cons_self ..)).trans h.1, ih (fun e he => hk e (List.mem_cons_of_mem _ he)) h.2⟩
theorem seg_lt {w : World} {L : List En} {nw ol : Option Nat} (h : Seg w nw L ol) : ∀ e ∈ L, e.b < w.heap.size := by
  induction L generalizing nw with
  | nil => intro e he; cases he
  | cons x X ih =>
    intro e he
    rcases List.mem_cons.1 he with rfl | he
    · exact lt_of_heap h.1
    · exact ih h.2 e he
/-- the order in the cache at a -/
structure Li (w : World) (a : Nat) (L : List En) (x0 x3 x4 x5 x6 x7 x8 x9 : Value) : Prop where
  row : w.heap[a]? = some (.cells #[x0, pv (hd L none), pv (ls none L), x3, x4, x5, x6, x7, x8, x9] 51 (0, 0))
  seg : Seg w none L none
  nb : (a :: L.map En.b).Nodup
/-- the blocks of a cache -/
def Fp (a : Nat) (L : List En) (k : Nat) : Prop := k ∈ a :: L.map En.b
theorem keep_refl (S : Nat → Prop) (w : World) : Keep S w w := ⟨rfl, rfl, rfl, Nat.le_refl _, fun _ _ _ => rfl⟩
theorem keep_trans {S : Nat → Prop} {w w1 w2 : World} (h : Keep S w w1) (k : Keep S w1 w2) : Keep S w w2 :=
  ⟨k.os.trans h.os, k.tape.trans h.tape, k.output.trans h.output, Nat.le_trans h.size k.size, fun i hi h1 => (k.block i (Nat.lt_of_lt_of_le hi h.size) h1).trans (h.block i hi h1)⟩
theorem keep_set {S : Nat → Prop} {w w' : World} (h : Keep S w w') {b : Nat} (hb : S b) (o : Nat) (v : Value) : Keep S w (w'.setCell ⟨b, o, none⟩ v) :=
  ⟨h.os, h.tape, h.output, by simpa [World.setCell] using h.size, fun k hk h1 => (heap_setCell_other w' ⟨b, o, none⟩ k v (fun e => h1 (e ▸ hb))).trans (h.block k hk h1)⟩
theorem keep_drew {S : Nat → Prop} {w w' : World} (h : Keep S w w') : Keep S w w'.drew := ⟨h.os, h.tape, h.output, h.size, h.block⟩
theorem keep_mono {S T : Nat → Prop} {w w' : World} (h : Keep S w w') (hs : ∀ k, S k → T k) : Keep T w w' := ⟨h.os, h.tape, h.output, h.size, fun k hk h1 => h.block k hk fun h2 => h1 (hs k h2)⟩
theorem keep_below {S : Nat → Prop} {w w' : World} (h : Below w.heap.size w w') : Keep S w w' := ⟨h.os, h.tape, h.output, h.size, fun k hk _ => h.block k hk⟩
/-- a row of ten, one written -/
theorem row1 {w : World} {a : Nat} {x0 x1 x2 x3 x4 x5 x6 x7 x8 x9 : Value} {t : TypeId} (h : w.heap[a]? = some (.cells #[x0, x1, x2, x3, x4, x5, x6, x7, x8, x9] t (0, 0))) (v : Value) : (w.setCell ⟨a, 1, none⟩ v).heap[a]? = some (.cells #[x0, v, x2, x3, x4, x5, x6, x7, x8, x9] t (0, 0)) := by
  rw [heap_setCell_same _ _ _ _ _ _ h]; rfl
theorem row2 {w : World} {a : Nat} {x0 x1 x2 x3 x4 x5 x6 x7 x8 x9 : Value} {t : TypeId} (h : w.heap[a]? = some (.cells #[x0, x1, x2, x3, x4, x5, x6, x7, x8, x9] t (0, 0))) (v : Value) : (w.setCell ⟨a, 2, none⟩ v).heap[a]? = some (.cells #[x0, x1, v, x3, x4, x5, x6, x7, x8, x9] t (0, 0)) := by
  rw [heap_setCell_same _ _ _ _ _ _ h]; rfl
theorem pl3 {w : World} {e : En} {nw ol : Option Nat} (h : pl w e nw ol) (nw' : Option Nat) : pl (w.setCell ⟨e.b, 3, none⟩ (pv nw')) e nw' ol := by
  unfold pl at *
  rw [heap_setCell_same _ _ _ _ _ _ h]; rfl
theorem pl4 {w : World} {e : En} {nw ol : Option Nat} (h : pl w e nw ol) (ol' : Option Nat) : pl (w.setCell ⟨e.b, 4, none⟩ (pv ol')) e nw ol' := by
  unfold pl at *
  rw [heap_setCell_same _ _ _ _ _ _ h]; rfl
theorem pl_c {w : World} {e : En} {nw ol : Option Nat} (h : pl w e nw ol) : w.cell? ⟨e.b, 0, none⟩ = some (.string ⟨e.k.toArray⟩) ∧ w.cell? ⟨e.b, 1, none⟩ = some (.string ⟨e.v.toArray⟩) ∧ w.cell? ⟨e.b, 2, none⟩ = some (.int .i64 (e.p : Int)) ∧ w.cell? ⟨e.b, 3, none⟩ = some (pv nw) ∧ w.cell? ⟨e.b, 4, none⟩ = some (pv ol) := by
  unfold pl at h
  refine ⟨?_, ?_, ?_, ?_, ?_⟩ <;> (rw [cell_of_row _ _ _ _ _ _ h]; rfl)
theorem pl_f {w : World} {e : En} {nw ol : Option Nat} (h : pl w e nw ol) (o : Nat) : w.frozen? ⟨e.b, o, none⟩ = false := frozen_of_row _ _ _ _ _ h
theorem pl_set {w : World} {e : En} {nw ol : Option Nat} (h : pl w e nw ol) {b : Nat} (hb : e.b ≠ b) (o : Nat) (v : Value) : pl (w.setCell ⟨b, o, none⟩ v) e nw ol := (heap_setCell_other _ _ _ _ hb).trans h
theorem pl_drew {w : World} {e : En} {nw ol : Option Nat} (h : pl w e nw ol) : pl w.drew e nw ol := h
theorem seg_set {w : World} {L : List En} {nw ol : Option Nat} (h : Seg w nw L ol) {b : Nat} (hb : ∀ e ∈ L, e.b ≠ b) (o : Nat) (v : Value) : Seg (w.setCell ⟨b, o, none⟩ v) nw L ol := seg_kept (fun e he => heap_setCell_other _ _ _ _ (hb e he)) h
theorem Li.cs {w : World} {a : Nat} {L : List En} {x0 x3 x4 x5 x6 x7 x8 x9 : Value} (h : Li w a L x0 x3 x4 x5 x6 x7 x8 x9) :
    w.cell? ⟨a, 0, none⟩ = some x0 ∧ w.cell? ⟨a, 1, none⟩ = some (pv (hd L none)) ∧ w.cell? ⟨a, 2, none⟩ = some (pv (ls none L)) ∧ w.cell? ⟨a, 3, none⟩ = some x3 ∧ w.cell? ⟨a, 4, none⟩ = some x4 ∧ w.cell? ⟨a, 5, none⟩ = some x5 ∧ w.cell? ⟨a, 6, none⟩ = some x6 ∧ w.cell? ⟨a, 7, none⟩ = some x7 ∧ w.cell? ⟨a, 8, none⟩ = some x8 ∧ w.cell? ⟨a, 9, none⟩ = some x9 := by
  have h := h.row
  refine ⟨?_, ?_, ?_, ?_, ?_, ?_, ?_, ?_, ?_, ?_⟩ <;> (rw [cell_of_row _ _ _ _ _ _ h]; rfl)
theorem Li.fz {w : World} {a : Nat} {L : List En} {x0 x3 x4 x5 x6 x7 x8 x9 : Value} (h : Li w a L x0 x3 x4 x5 x6 x7 x8 x9) (o : Nat) : w.frozen? ⟨a, o, none⟩ = false := frozen_of_row _ _ _ _ _ h.row
theorem nd_mid {a : Nat} {X Y : List En} {e : En} (h : (a :: (X ++ e :: Y).map En.b).Nodup) : (a :: (X ++ Y).map En.b).Nodup ∧ a ≠ e.b ∧ (∀ x ∈ X ++ Y, x.b ≠ e.b) ∧ ∀ x ∈ X ++ Y, x.b ≠ a := by
  rw [List.map_append, List.map_cons] at h
  have h' : (e.b :: (a :: (X.map En.b ++ Y.map En.b))).Nodup := by
    refine (List.Perm.nodup_iff ?_).1 h
    exact (List.perm_middle.cons a).trans (List.Perm.swap _ _ _)
  rw [← List.map_append, List.nodup_cons] at h'
  refine ⟨h'.2, fun c => h'.1 (c ▸ List.mem_cons_self ..), fun x hx c => h'.1 (List.mem_cons_of_mem _ (c ▸ List.mem_map_of_mem hx)), fun x hx c => ?_⟩
  have := (List.nodup_cons.1 h'.2).1
  exact this (c ▸ List.mem_map_of_mem hx)
end Kc
end Go.Proofs.Ytkamjpjmdibfgaa
