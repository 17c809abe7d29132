import Derived.Test.YtnnohacciikofaaDoorCRF5
import Derived.Deep.DeepCutAuto
import Derived.Test.YtnnohacciikofaaDoorCFN9
import Derived.Test.YtnnohacciikofaaDoorCFL1
import Derived.Test.YtnnohacciikofaaDoorCFR6
import Derived.Deep.RegionHeld3
import Derived.Test.YtnnohacciikofaaDoorCO51
namespace Go.Proofs.YtnnohacciikofaaDoor
open Go.RowKit
end Go.Proofs.YtnnohacciikofaaDoor

namespace Go.Proofs.YtnnohacciikofaaDoor
open Go.RowKit
theorem Row.fst {w : World} {g : Nat} {L M : List (List UInt8)} (h : Row w g (L ++ M)) : At w (some ⟨g, 0, none⟩) L := by
  have := h.at.take L.length
  rwa [List.take_left] at this
end Go.Proofs.YtnnohacciikofaaDoor

namespace Go.Proofs.YtnnohacciikofaaDoor
open Go.RowKit
/-- what again works on: three rows, two ranges -/
structure Ag (w0 w' : World) (B gl gx gy : Nat) (xb xe yb ye : Int) (nx ny cx cy : Nat) (L X Y tl tx ty : List (List UInt8)) : Prop where
  rl : Row w' gl (L ++ tl)
  rx : Row w' gx (X ++ tx)
  ry : Row w' gy (Y ++ ty)
  bx : Rg w' B xb xe (.slice (some ⟨gx, 0, none⟩) nx cx)
  yy : Rg w' (B + 1) yb ye (.slice (some ⟨gy, 0, none⟩) ny cy)
  keep : Keep (fun k => k = gl ∨ k = gx ∨ k = gy ∨ B ≤ k) w0 w'
theorem Ag.world {w0 w1 w2 : World} {B gl gx gy : Nat} {xb xe yb ye : Int} {nx ny cx cy : Nat} {L X Y tl tx ty : List (List UInt8)} (h : Ag w0 w1 B gl gx gy xb xe yb ye nx ny cx cy L X Y tl tx ty) (hb : Below w1.heap.size w1 w2) : Ag w0 w2 B gl gx gy xb xe yb ye nx ny cx cy L X Y tl tx ty :=
  ⟨h.rl.below hb h.rl.lt, h.rx.below hb h.rx.lt, h.ry.below hb h.ry.lt, h.bx.below hb, h.yy.below hb, h.keep.trans (Keep.ofBelow (S := fun k => k = gl ∨ k = gx ∨ k = gy ∨ B ≤ k) hb) fun _ _ e => e⟩
theorem Row.but5 {w w' : World} {g k : Nat} {L : List (List UInt8)} (h : Row w g L) (hb : But k w w') (hk : g ≠ k) : Row w' g L := (hb.block g h.lt hk).trans h
theorem Rg.but5 {w w' : World} {g k : Nat} {b e : Int} {v : Value} (h : Rg w g b e v) (hb : But k w w') (hk : g ≠ k) : Rg w' g b e v := (hb.block g (lt_of_heap h) hk).trans h
theorem But.keep5 {w w' : World} {k : Nat} {S : Nat → Prop} (hb : But k w w') (hS : S k) : Keep S w w' := ⟨hb.os, hb.tape, hb.output, hb.size, fun j hj hn => hb.block j hj fun e => hn (e ▸ hS)⟩
/-- and copies of them -/
structure Ab (w0 w' : World) (B gl gx gy : Nat) (xb xe yb ye : Int) (nx ny cx cy : Nat) (L X Y tl tx ty : List (List UInt8)) (ac aa ab : Option Addr) (ga gb kc ka kb n : Nat) : Prop where
  ag : Ag w0 w' B gl gx gy xb xe yb ye nx ny cx cy L X Y tl tx ty
  fc : At w' ac L
  fcl : n ≤ kc ∧ kc ≤ 9223372036854775807
  fcb : ∀ x, ac = some x → B ≤ x.block
  fva : Rg w' ga xb xe (.slice aa nx ka)
  faa : At w' aa X
  fba : ∀ x, aa = some x → B ≤ x.block
  fga : B ≤ ga
  fvb : Rg w' gb yb ye (.slice ab ny kb)
  fab : At w' ab Y
  fbb : ∀ x, ab = some x → B ≤ x.block
  fgb : B ≤ gb
theorem Ab.world {w0 w1 w2 : World} {B gl gx gy : Nat} {xb xe yb ye : Int} {nx ny cx cy : Nat} {L X Y tl tx ty : List (List UInt8)} {ac aa ab : Option Addr} {ga gb kc ka kb n : Nat} (h : Ab w0 w1 B gl gx gy xb xe yb ye nx ny cx cy L X Y tl tx ty ac aa ab ga gb kc ka kb n) (hb : Below w1.heap.size w1 w2) : Ab w0 w2 B gl gx gy xb xe yb ye nx ny cx cy L X Y tl tx ty ac aa ab ga gb kc ka kb n :=
  ⟨h.ag.world hb, h.fc.below hb (Nat.le_refl _), h.fcl, h.fcb, h.fva.below hb, h.faa.below hb (Nat.le_refl _), h.fba, h.fga, h.fvb.below hb, h.fab.below hb (Nat.le_refl _), h.fbb, h.fgb⟩
theorem Own.at_base {w : World} {base : Nat} {v : Value} {L : List (List UInt8)} (h : Own w base v (svs L)) : ∃ a cap, v = .slice a L.length cap ∧ At w a L ∧ L.length ≤ cap ∧ cap ≤ 9223372036854775807 ∧ ∀ x, a = some x → base ≤ x.block := by
  obtain ⟨a, cap, rfl, h1, h2, h3⟩ := h.at
  exact ⟨a, cap, rfl, h1, h2, h3, fun x hx => (own_block h hx).2⟩
/-- the blocks of again's arguments -/
structure Ap (w : World) (B gl gx gy : Nat) : Prop where
  lx : gl ≠ gx
  ly : gl ≠ gy
  xy : gx ≠ gy
  l : gl < B
  x : gx < B
  y : gy < B
  tl : 4 ≤ gl
  tx : 4 ≤ gx
  ty : 4 ≤ gy
  z : Tb w
theorem Ag.tb {w0 w1 : World} {B gl gx gy : Nat} {xb xe yb ye : Int} {nx ny cx cy : Nat} {L X Y tl tx ty : List (List UInt8)} (h : Ag w0 w1 B gl gx gy xb xe yb ye nx ny cx cy L X Y tl tx ty) (p : Ap w0 B gl gx gy) : Tb w1 := by
  have h1 := p.tl
  have h2 := p.tx
  have h3 := p.ty
  have h4 := p.l
  exact p.z.below (B := 4) (h.keep.toBelow p.z.lt fun k hk => by rcases hk with e | e | e | e <;> omega) (Nat.le_refl _)
end Go.Proofs.YtnnohacciikofaaDoor

namespace Go.Proofs.YtnnohacciikofaaDoor
open Go.RowKit
/-- the store of a struct into a row, as one step of a region that draws -/
theorem step_store_row {P : Program} {ops : Array Oper} {o : Oper} {a : Act} {w : World} {K : Act → World → Prop} {Q : Exit → Act → World → Prop} {E : Prop}
    (hgd : o.guard = none) (ty : TypeId) (x y : Operand) (ho : o.op = .store ty x y) (g : Nat) (cells : Array Value) (hx : a.eval x = .pointer (some ⟨g, 0, none⟩)) (hy : a.eval y = .agg cells)
    (t : TypeId) (old : Array Value) (hg : w.heap[g]? = some (.cells old t (0, 0))) (hi : (P.info? ty).map (·.size) = some cells.size) (hold : old.size = cells.size) (h1 : cells.all (·.oneCell') = true)
    (h : K (a.put o.dst undef) (w.setRow g cells)) : if Region.wanted o (yielded ops a.tmps) = true then Oper.wp P o a w K Q else E := by
  have hw : Region.wanted o (yielded ops a.tmps) = true := by simp [Region.wanted, hgd]
  rw [if_pos hw]
  exact wp_store_row ty x y ho g cells hx hy t old hg hi hold h1 h
theorem At.setRow5 {w : World} {a : Option Addr} {l : List (List UInt8)} (h : At w a l) (g : Nat) (cs : Array Value) (hne : ∀ x, a = some x → x.block ≠ g) : At (w.setRow g cs) a l := fun j p hp => by
  obtain ⟨x, rfl, hx, hc⟩ := h j p hp
  refine ⟨x, rfl, by rw [setRow_size]; exact hx, ?_⟩
  rw [← hc]
  exact World.cell?_of_block (w := w) (by rw [addr_block]; exact setRow_other w g _ cs (hne x rfl))
/-- a range with a copy of a list lies there -/
def CpR (w w' : World) (g : Nat) (b e : Int) (a : Option Addr) (n k : Nat) (L : List (List UInt8)) : Prop :=
  w.heap.size ≤ g ∧ Rg w' g b e (.slice a n k) ∧ Below w.heap.size w w' ∧ At w' a L ∧ ∀ x, a = some x → w.heap.size ≤ x.block
/-- T{.., append(nil, l...)}: the variable made behind the append, or ahead of it -/
theorem copy_both (w : World) (g c n : Nat) (L : List (List UInt8)) (b e : Int) (hA : At w (some ⟨g, 0, none⟩) L) (hn : L.length = n) (hL : n ≤ 8796093021952) :
    ∃ a2 k2 w2 a3 k3 w3, (Builtin.append_ #[24, 24] 24 #[.slice none 0 0, .slice (some ⟨g, 0, none⟩) n c]).run Tryd.prog w.drew = .ok (.slice a2 n k2) w2 ∧
      (Builtin.append_ #[24, 24] 24 #[.slice none 0 0, .slice (some ⟨g, 0, none⟩) n c]).run Tryd.prog (w.alloc (.cells #[Value.int .i64 0, .int .i64 0, .slice none 0 0] 28)).drew = .ok (.slice a3 n k3) w3 ∧
      Below w.heap.size w w2 ∧ Below w.heap.size w w3 ∧ Rg w3 w.heap.size 0 0 (.slice none 0 0) ∧
      CpR w (w2.alloc (.cells #[Value.int .i64 b, .int .i64 e, .slice a2 n k2] 28)) w2.heap.size b e a2 n k2 L ∧ CpR w (w3.setRow w.heap.size #[Value.int .i64 b, .int .i64 e, .slice a3 n k3]) w.heap.size b e a3 n k3 L := by
  subst hn
  obtain ⟨v2, w2, hap2, O2, b2⟩ := append_at w.drew (some ⟨g, 0, none⟩) c L (hA.heap rfl) (by omega)
  obtain ⟨a2, k2, rfl, A2, _, _, ba2⟩ := O2.at_base
  have az := (Below.refl w.heap.size w).alloc (Nat.le_refl _) (.cells #[Value.int .i64 0, .int .i64 0, .slice none 0 0] 28)
  have rz := Rg.new w 0 0 (.slice none 0 0)
  have sz := size_alloc w (.cells #[Value.int .i64 0, .int .i64 0, .slice none 0 0] 28)
  obtain ⟨v3, w3, hap3, O3, b3⟩ := append_at (w.alloc (.cells #[Value.int .i64 0, .int .i64 0, .slice none 0 0] 28)).drew (some ⟨g, 0, none⟩) c L ((hA.below az (Nat.le_refl _)).heap rfl) (by omega)
  obtain ⟨a3, k3, rfl, A3, _, _, ba3⟩ := O3.at_base
  have b2' : Below w.heap.size w w2 := drewBelow5 b2
  have b3' := drewBelow5 b3
  have b3'' : Below w.heap.size w w3 := az.trans (b3'.mono az.size)
  have hal := (Below.refl w2.heap.size w2).alloc (Nat.le_refl _) (.cells #[Value.int .i64 b, .int .i64 e, .slice a2 L.length k2] 28)
  have rz3 := rz.below b3'
  have ba3' : ∀ x, a3 = some x → w.heap.size + 1 ≤ x.block := fun x hx => by
    have := ba3 x hx
    rw [← sz]; exact this
  refine ⟨a2, k2, w2, a3, k3, w3, hap2, hap3, b2', b3'', rz3, ⟨b2'.size, Rg.new w2 _ _ _, b2'.trans (hal.mono b2'.size), A2.below hal (Nat.le_refl _), ba2⟩, ⟨Nat.le_refl _, setRow_heap _ _ _ _ _ _ rz3, Below.setRow b3'' (Nat.le_refl _) _, ?_, fun x hx => by have := ba3' x hx; omega⟩⟩
  exact A3.setRow5 _ _ fun x hx => by have := ba3' x hx; omega
end Go.Proofs.YtnnohacciikofaaDoor

namespace Go.Proofs.YtnnohacciikofaaDoor
open Go.RowKit
/-- what again has left to turn -/
structure Au (w0 w' : World) (B gl gx gy : Nat) (xb xe yb ye : Int) (nx ny cx cy : Nat) (L X Y tl tx ty X0 Y0 : List (List UInt8)) (aa ab : Option Addr) (ga gb ka kb : Nat) : Prop where
  ag : Ag w0 w' B gl gx gy xb xe yb ye nx ny cx cy L X Y tl tx ty
  fva : Rg w' ga xb xe (.slice aa nx ka)
  faa : At w' aa X0
  fba : ∀ x, aa = some x → B ≤ x.block
  fga : B ≤ ga
  fvb : Rg w' gb yb ye (.slice ab ny kb)
  fab : At w' ab Y0
  fbb : ∀ x, ab = some x → B ≤ x.block
  fgb : B ≤ gb
theorem Ab.au {w0 w1 : World} {B gl gx gy : Nat} {xb xe yb ye : Int} {nx ny cx cy : Nat} {L X Y tl tx ty : List (List UInt8)} {ac aa ab : Option Addr} {ga gb kc ka kb n : Nat} (h : Ab w0 w1 B gl gx gy xb xe yb ye nx ny cx cy L X Y tl tx ty ac aa ab ga gb kc ka kb n) : Au w0 w1 B gl gx gy xb xe yb ye nx ny cx cy L X Y tl tx ty X Y aa ab ga gb ka kb :=
  ⟨h.ag, h.fva, h.faa, h.fba, h.fga, h.fvb, h.fab, h.fbb, h.fgb⟩
theorem Au.turn {w0 w1 w2 : World} {B gl gx gy : Nat} {xb xe yb ye : Int} {nx ny cx cy : Nat} {L X Y tl tx ty X0 Y0 L' X' Y' : List (List UInt8)} {aa ab : Option Addr} {ga gb ka kb : Nat} (h : Au w0 w1 B gl gx gy xb xe yb ye nx ny cx cy L X Y tl tx ty X0 Y0 aa ab ga gb ka kb) {k : Nat} (hk : k = gl ∨ k = gx ∨ k = gy) (hB : k < B) (b : But k w1 w2) (r1 : Row w2 gl (L' ++ tl)) (r2 : Row w2 gx (X' ++ tx)) (r3 : Row w2 gy (Y' ++ ty)) :
    Au w0 w2 B gl gx gy xb xe yb ye nx ny cx cy L' X' Y' tl tx ty X0 Y0 aa ab ga gb ka kb :=
  ⟨⟨r1, r2, r3, h.ag.bx.but5 b (by omega), h.ag.yy.but5 b (by omega), h.ag.keep.trans (b.keep5 (S := fun j => j = gl ∨ j = gx ∨ j = gy ∨ B ≤ j) (by rcases hk with e | e | e <;> simp [e])) fun _ _ e => e⟩,
    h.fva.but5 b (by have := h.fga; omega), h.faa.but b (fun x hx => by have := h.fba x hx; omega), h.fba, h.fga, h.fvb.but5 b (by have := h.fgb; omega), h.fab.but b (fun x hx => by have := h.fbb x hx; omega), h.fbb, h.fgb⟩
theorem rev_len {L : List (List UInt8)} {n : Nat} (h : L.length = n) : L.reverse.length = n := by rw [List.length_reverse]; exact h
theorem selC_len (fr : Int) (L : List (List UInt8)) : (selL (cmpE fr L) (Cut.cmp L fr.toNat)).length ≤ 81 := by
  unfold selL
  split
  · rename_i h
    unfold cmpE at h
    split at h
    · rename_i h1
      split at h
      · rw [Cut.cmp_length]; exact Cut.cut_len (by omega) (by omega)
      · cases h
    · cases h
  · simp
theorem selJ_len (b1 e1 b2 e2 : Int) (H1 H2 : List (List UInt8)) : (selL (joinE b1 e1 b2 e2 H1 H2) (Cut.joinH b1.toNat e1.toNat e2.toNat H1 H2)).length ≤ 81 := by
  unfold selL
  split
  · rename_i h
    unfold joinE at h
    split at h
    · rename_i h1
      split at h
      · split at h
        · rename_i h3
          obtain ⟨b', e', rfl, rfl, h4, h5, h6⟩ := rgt_true h1.1
          obtain ⟨c', d', rfl, rfl, h7, h8, h9⟩ := rgt_true h1.2
          obtain rfl : e' = c' := by omega
          simp only [Int.toNat_natCast]
          rw [Cut.joinH_length h8 h4 h7 h6 h9]
          exact Cut.cut_len h8 (by omega)
        · cases h
      · cases h
    · cases h
  · simp
end Go.Proofs.YtnnohacciikofaaDoor

namespace Go.Proofs.YtnnohacciikofaaDoor
open Go.RowKit
theorem rg_three {w : World} {g : Nat} {b e : Int} {v : Value} (h : Rg w g b e v) (b' e' : Int) (v' : Value) : ((w.setCell ⟨g, 0, none⟩ (.int .i64 b')).setCell ⟨g, 1, none⟩ (.int .i64 e')).setCell ⟨g, 2, none⟩ v' = w.setRow g #[.int .i64 b', .int .i64 e', v'] := by
  rw [setCell_eq_setRow w g 0 _ _ _ _ h, setCell_eq_setRow _ g 1 _ _ _ _ (setRow_heap _ _ _ _ _ _ h), setRow_setRow, setCell_eq_setRow _ g 2 _ _ _ _ (setRow_heap _ _ _ _ _ _ h), setRow_setRow]
  rfl
end Go.Proofs.YtnnohacciikofaaDoor

namespace Go.Proofs.YtnnohacciikofaaDoor
open Go.RowKit

theorem Own.setT {w : World} {base g cap : Nat} {cs : List Value} (h : Own w base (.slice (some ⟨g, 0, none⟩) cs.length cap) cs) (k : Nat) (hk : k < cs.length) (x : Value) :
    Own (w.setCell ⟨g, k, none⟩ x) base (.slice (some ⟨g, 0, none⟩) (cs.set k x).length cap) (cs.set k x) := by
  rcases h with ⟨h, _⟩ | ⟨g', cap', h, h1, h2, h3, h4, h5, h6⟩
  · cases h
  · injection h with e1 e2 e3
    injection e1 with e1
    injection e1 with e1
    subst e1 e3
    refine .inr ⟨g, cap, rfl, h1, by rw [List.length_set]; exact h2, h3, fun j v hv => ?_, fun j hj => ?_, by simpa [World.setCell] using h6⟩
    · rw [Nat.zero_add]
      rw [List.getElem?_set] at hv
      split at hv
      · rename_i e
        subst e
        cases hv
        have := (h5 k (by omega)).1
        rw [Nat.zero_add] at this
        exact World.cell?_setCell_same' _ _ _ this
      · rename_i e
        have := h4 j v hv
        rw [Nat.zero_add] at this
        exact (World.cell?_setCell_other _ _ _ _ (by intro h; injection h; omega)).trans this
    · have := h5 j hj
      rw [Nat.zero_add] at this ⊢
      refine ⟨?_, by rw [World.frozen?_setCell]; exact this.2⟩
      by_cases e : j = k
      · subst e
        rw [World.cell?_setCell_same' _ _ _ this.1]; rfl
      · rw [World.cell?_setCell_other _ _ _ _ (by intro h; injection h; omega)]
        exact this.1
/-- append([][]string(nil), ls...) -/
theorem append_free (w : World) (base : Nat) (vf : Value) (us : List Value) (hown : Own w base vf us) (h1c : ∀ u ∈ us, u.oneCell' = true) (h0 : 0 < us.length) (hlen : us.length ≤ 1000000) :
    ∃ v' w', (Builtin.append_ #[50, 50] 50 #[.slice none 0 0, vf]).run Tryd.prog w = .ok v' w' ∧ Own w' w.heap.size v' us ∧ Below w.heap.size w w' := by
  obtain ⟨i0, hi, hz0, hz1, hz2⟩ := info_parts infoLS
  have hsrc : Src Tryd.prog 1 50 vf us.length us w := by
    rcases hown with ⟨rfl, h⟩ | ⟨g, cap, rfl, h1, h2, h3, h4, h5, h6⟩
    · subst h; simp at h0
    · exact Src.ofSlice w Tryd.underlying50 ⟨g, 0, none⟩ us.length cap us (by rw [Nat.mul_one]) (fun j u hj => by rw [Addr.add_mid]; exact h4 j u hj) h1c
  obtain ⟨v', w', h1, h2, h3, h4⟩ := run_append_O (P := Tryd.prog) w w.heap.size 50 50 50 24 i0 (.slice none 0 0) Tryd.underlying50 hi hz0 hz1 rfl (.slice none 0 0) [] (Own.nil _ _) vf us.length us hsrc
    (by rw [hz2]; simp; omega) (by rw [maxLen]; simp; omega) (Nat.le_refl _) (fun _ => h0)
  exact ⟨v', w', h1, by simpa using h2, Below.ofGrown h3 (Own.nil w w.heap.size).ge (Nat.le_refl _)⟩
/-- the book while its lists are marked -/
structure M2 (w : World) (X base : Nat) (vl : Value) (us : List Value) (Ls : List (List (List UInt8))) : Prop where
  row : w.heap[X]? = some (.cells #[.slice none 0 0, .slice none 0 0, vl, .slice none 0 0, .slice none 0 0] 52 (0, 0))
  lists : Own w base vl us
  len : Ls.length = us.length
  dX : ∀ k, vl.ownBlock = some k → k ≠ X
  own : ∀ (i : Nat) (u : Value) (L : List (List UInt8)), us[i]? = some u → Ls[i]? = some L → Own w base u (svs L) ∧ L.length ≤ 1000000
  ap : ∀ (i : Nat) (u : Value) (g : Nat), us[i]? = some u → u.ownBlock = some g → g ≠ X ∧ vl.ownBlock ≠ some g
  di : ∀ (i j : Nat) (u v : Value) (g : Nat), us[i]? = some u → us[j]? = some v → u.ownBlock = some g → v.ownBlock = some g → i = j
theorem M2.below {w w' : World} {X base : Nat} {vl : Value} {us : List Value} {Ls : List (List (List UInt8))} (h : M2 w X base vl us Ls) (hb : Below w.heap.size w w') : M2 w' X base vl us Ls where
  row := (hb.block X (lt_of_heap h.row)).trans h.row
  lists := h.lists.below hb (Nat.le_refl _)
  len := h.len
  dX := h.dX
  own := fun i u L h1 h2 => ⟨(h.own i u L h1 h2).1.below hb (Nat.le_refl _), (h.own i u L h1 h2).2⟩
  ap := h.ap
  di := h.di
theorem M2.set {w : World} {X base : Nat} {vl : Value} {us : List Value} {Ls : List (List (List UInt8))} (h : M2 w X base vl us Ls) {i g n c k : Nat} {L : List (List UInt8)} (hu : us[i]? = some (.slice (some ⟨g, 0, none⟩) n c)) (hL : Ls[i]? = some L) (hk : k < L.length) (m : List UInt8) :
    M2 (w.setCell ⟨g, k, none⟩ (sv m)) X base vl us (Ls.set i (L.set k m)) := by
  have hap := h.ap i _ g hu rfl
  have ho := (h.own i _ L hu hL).1
  have hset : ∀ b, b ≠ g → (w.setCell ⟨g, k, none⟩ (sv m)).heap[b]? = w.heap[b]? := fun b hb => Below.heap_setCell w _ _ b hb
  have hsz : (w.setCell ⟨g, k, none⟩ (sv m)).heap.size = w.heap.size := by simp [World.setCell]
  refine ⟨(hset X (Ne.symm hap.1)).trans h.row, h.lists.same (by rw [hsz]; exact Nat.le_refl _) fun b hb => hset b fun e => hap.2 (e ▸ hb), by rw [List.length_set]; exact h.len, h.dX, fun j u L' h1 h2 => ?_, h.ap, h.di⟩
  by_cases e : j = i
  · subst e
    rw [hu] at h1
    obtain rfl := Option.some.inj h1
    have hj : j < Ls.length := (List.getElem?_eq_some_iff.1 hL).1
    rw [List.getElem?_set_self hj] at h2
    obtain rfl := Option.some.inj h2
    have hn : n = (svs L).length := by
      rcases own_cases ho with ⟨e, _⟩ | ⟨g', c', e, _⟩
      · cases e
      · injection e
    have h3 := Own.setT (cs := svs L) (by rw [← hn]; exact ho) k (by rw [svs_length]; exact hk) (sv m)
    have e1 : (svs L).set k (sv m) = svs (L.set k m) := by simp [svs, List.map_set]
    rw [e1] at h3
    have e2 : (svs (L.set k m)).length = n := by rw [hn, svs_length, svs_length, List.length_set]
    rw [e2] at h3
    exact ⟨h3, by rw [List.length_set]; exact (h.own j _ L hu hL).2⟩
  · rw [List.getElem?_set_ne (Ne.symm e)] at h2
    refine ⟨(h.own j u L' h1 h2).1.same (by rw [hsz]; exact Nat.le_refl _) fun b hb => hset b fun e' => ?_, (h.own j u L' h1 h2).2⟩
    subst e'
    exact e (h.di j i u _ b h1 hu hb rfl)
/-- all are marked: now they may grow -/
theorem M2.start {w : World} {X base : Nat} {vl : Value} {us : List Value} {Ls : List (List (List UInt8))} (h : M2 w X base vl us Ls) (hm : ∀ (j : Nat) (L : List (List UInt8)), Ls[j]? = some L → L = List.replicate L.length (mrk j)) :
    ∃ μ, St w X base vl (.slice none 0 0) (.slice none 0 0) us [] [] μ ∧ ∀ (i : Nat) (u : Value), us[i]? = some u → ∃ n, n ≤ 1000000 ∧ Xs w base u i n μ := by
  classical
  obtain ⟨μ, h1, h2⟩ : ∃ μ : Mu, (∀ g i ℓ, μ g = some (i, ℓ) → ∃ u, us[i]? = some u ∧ u.ownBlock = some g ∧ ∃ L, Ls[i]? = some L ∧ L.length = ℓ) ∧ (∀ (g i : Nat) (u : Value) (L : List (List UInt8)), us[i]? = some u → u.ownBlock = some g → Ls[i]? = some L → μ g = some (i, L.length)) := by
    refine ⟨fun g => if hh : ∃ p : Nat × Nat, ∃ u, us[p.1]? = some u ∧ u.ownBlock = some g ∧ ∃ L, Ls[p.1]? = some L ∧ L.length = p.2 then some hh.choose else none, fun g i ℓ hμ => ?_, fun g i u L a b c => ?_⟩
    · simp only at hμ
      split at hμ
      · rename_i hh
        have := hh.choose_spec
        rw [Option.some.inj hμ] at this
        exact this
      · cases hμ
    · have hh : ∃ p : Nat × Nat, ∃ u, us[p.1]? = some u ∧ u.ownBlock = some g ∧ ∃ L, Ls[p.1]? = some L ∧ L.length = p.2 := ⟨(i, L.length), u, a, b, L, c, rfl⟩
      simp only
      rw [dif_pos hh]
      obtain ⟨u', a', b', L', c', d'⟩ := hh.choose_spec
      have e1 : hh.choose.1 = i := h.di _ _ u' u g a' a b' b
      rw [e1, c] at c'
      obtain rfl := Option.some.inj c'
      refine congrArg some (Prod.ext e1 d'.symm)
  have hcell : ∀ g i ℓ, μ g = some (i, ℓ) → base ≤ g ∧ g < w.heap.size ∧ ¬ Bs X vl (.slice none 0 0) (.slice none 0 0) g ∧ ∀ j, j < ℓ → w.cell? ⟨g, j, none⟩ = some (sv (mrk i)) := fun g i ℓ hμ => by
    obtain ⟨u, a, b, L, c, d⟩ := h1 g i ℓ hμ
    obtain ⟨o, _⟩ := h.own i u L a c
    refine ⟨o.ge g b, o.lt g b, fun hB => ?_, fun j hj => own_cell o b ?_⟩
    · have hap := h.ap i u g a b
      rcases hB with e | e | e | e
      · exact hap.1 e
      · exact hap.2 e
      · cases e
      · cases e
    · rw [hm i L c, svs, List.getElem?_map, List.getElem?_replicate, if_pos (by omega)]; rfl
  have hen : ∀ (i : Nat) (u : Value), us[i]? = some u → ∃ n, n ≤ 1000000 ∧ Xs w base u i n μ := fun i u hu => by
    have hi : i < us.length := (List.getElem?_eq_some_iff.1 hu).1
    have hL : Ls[i]? = some (Ls[i]'(by rw [h.len]; exact hi)) := List.getElem?_eq_getElem _
    generalize Ls[i]'(by rw [h.len]; exact hi) = L at hL
    obtain ⟨o, hl⟩ := h.own i u L hu hL
    refine ⟨L.length, hl, ⟨by rw [← hm i L hL]; exact o, fun g hg => h2 g i u L hu hg hL, ?_⟩⟩
    rcases own_cases o with ⟨rfl, _⟩ | ⟨g, c, e1, e2⟩
    · exact .inl rfl
    · exact .inr ⟨g, _, c, L.length, e1, by rw [svs_length]; exact Nat.le_refl _, by omega, h2 g i u L hu e2 hL⟩
  refine ⟨μ, ⟨h.row, h.lists, Own.nil _ _, Own.nil _ _, fun k hk => ?_, fun k _ => ⟨fun e => (by cases e), fun e => (by cases e)⟩, fun k hk => (by cases hk), hcell, fun i u hu => ?_, fun j s i h1 => (by simp at h1), fun i hi => (by cases hi)⟩, hen⟩
  · rcases hk with hk | hk | hk
    · exact h.dX k hk
    · cases hk
    · cases hk
  · obtain ⟨n, _, hx⟩ := hen i u hu
    exact hx.en
end Go.Proofs.YtnnohacciikofaaDoor

namespace Go.Proofs.YtnnohacciikofaaDoor
open Go.RowKit
theorem En.of {μ μ' : Mu} {i : Nat} {s : Value} (e : En μ i s) (h : ∀ g ℓ, μ g = some (i, ℓ) → μ' g = some (i, ℓ)) : En μ' i s := by
  rcases e with rfl | ⟨g, n, c, ℓ, rfl, h1, h2, h3⟩
  · exact .inl rfl
  · exact .inr ⟨g, n, c, ℓ, rfl, h1, h2, h g ℓ h3⟩
theorem Xs.below {w w' : World} {base : Nat} {x : Value} {i ℓ : Nat} {μ : Mu} (h : Xs w base x i ℓ μ) (hb : Below w.heap.size w w') : Xs w' base x i ℓ μ := ⟨h.own.below hb (Nat.le_refl _), h.mrkd, h.en⟩
/-- another list grew -/
theorem Xs.other {w w' : World} {base : Nat} {x x' u : Value} {i j ℓ n : Nat} {μ μ' : Mu} (hu : Xs w base u j n μ) (hx : Xs w base x i ℓ μ) (hne : j ≠ i) (hg : Grow w w' x x') (hm : ∀ g k m, μ g = some (k, m) → k ≠ i → μ' g = some (k, m)) : Xs w' base u j n μ' := by
  refine ⟨hu.own.same hg.size fun g hgu => hg.old g (hu.own.lt g hgu) fun e => ?_, fun g hgu => hm g j n (hu.mrkd g hgu) hne, hu.en.of fun g m h => hm g j m h hne⟩
  have h1 := hx.mrkd g e
  rw [hu.mrkd g hgu] at h1
  injection h1 with h1
  exact hne (congrArg Prod.fst h1)
/-- the book's own lists grew -/
theorem Xs.book {w w' : World} {X base : Nat} {vl vg vh : Value} {us GS : List Value} {HS : List Nat} {μ : Mu} (hs : St w X base vl vg vh us GS HS μ) {x : Value} {i ℓ : Nat} (hx : Xs w base x i ℓ μ) {v v' : Value} (hv : v = vg ∨ v = vh) (hg : Grow w w' v v') (o : Nat) (y : Value) : Xs (w'.setCell ⟨X, o, none⟩ y) base x i ℓ μ := by
  refine ⟨hx.own.same (by simp [World.setCell]; exact hg.size) fun g hgx => ?_, hx.mrkd, hx.en⟩
  have hB := (hs.mkd g i ℓ (hx.mrkd g hgx)).2.2.1
  rw [Below.heap_setCell w' _ y g (fun e => hB (.inl e))]
  refine hg.old g (hx.own.lt g hgx) fun e => ?_
  rcases hv with rfl | rfl
  · exact hB (.inr (.inr (.inl e)))
  · exact hB (.inr (.inr (.inr e)))
theorem Grow.below {w w' : World} {v v' : Value} {base : Nat} (h : Grow w w' v v') (hv : ∀ k, v.ownBlock = some k → base ≤ k) (hb : base ≤ w.heap.size) : Below base w w' := ⟨h.os, h.tape, h.output, h.size, fun k hk => h.old k (by omega) fun e => by have := hv k e; omega⟩
theorem St.c2 {w : World} {X base : Nat} {vl vg vh : Value} {us GS : List Value} {HS : List Nat} {μ : Mu} (h : St w X base vl vg vh us GS HS μ) : w.cell? ⟨X, 2, none⟩ = some vl := by rw [cell_of_row _ _ _ _ _ _ h.row]; rfl
theorem St.c3 {w : World} {X base : Nat} {vl vg vh : Value} {us GS : List Value} {HS : List Nat} {μ : Mu} (h : St w X base vl vg vh us GS HS μ) : w.cell? ⟨X, 3, none⟩ = some vg := by rw [cell_of_row _ _ _ _ _ _ h.row]; rfl
theorem St.c4 {w : World} {X base : Nat} {vl vg vh : Value} {us GS : List Value} {HS : List Nat} {μ : Mu} (h : St w X base vl vg vh us GS HS μ) : w.cell? ⟨X, 4, none⟩ = some vh := by rw [cell_of_row _ _ _ _ _ _ h.row]; rfl
/-- the field that is stored behind an append -/
theorem St.field {w w' : World} {X base : Nat} {vl vg vh : Value} {us GS : List Value} {HS : List Nat} {μ : Mu} (h : St w X base vl vg vh us GS HS μ) {v v' : Value} (hv : v = vg ∨ v = vh) (hg : Grow w w' v v') : w'.cell? ⟨X, 3, none⟩ = some vg ∧ w'.frozen? ⟨X, 3, none⟩ = false ∧ w'.cell? ⟨X, 4, none⟩ = some vh ∧ w'.frozen? ⟨X, 4, none⟩ = false := by
  have hne : v.ownBlock ≠ some X := fun e => by
    rcases hv with rfl | rfl
    · exact h.dX X (.inr (.inl e)) rfl
    · exact h.dX X (.inr (.inr e)) rfl
  have r := (hg.old X (lt_of_heap h.row) hne).trans h.row
  exact ⟨by rw [cell_of_row _ _ _ _ _ _ r]; rfl, frozen_of_row _ _ _ _ _ r, by rw [cell_of_row _ _ _ _ _ _ r]; rfl, frozen_of_row _ _ _ _ _ r⟩
theorem ins_length (l : List Nat) : (ins l).length = l.length := by simp [ins]
theorem alloc_cell {w : World} {X : Nat} (hX : X < w.heap.size) (o : Nat) (ob : Obj) : (w.alloc ob).cell? ⟨X, o, none⟩ = w.cell? ⟨X, o, none⟩ := World.cell?_of_block (w := w) (Below.heap_alloc w ob X hX)
end Go.Proofs.YtnnohacciikofaaDoor
