import Derived.Test.YtagplmnnbjidmaaDoorCTL29
import Derived.Test.YtagplmnnbjidmaaDoorCTL25
namespace Go.Proofs.YtagplmnnbjidmaaDoor
open Go.RowKit
theorem dis_mov {F F' G : Nat → Prop} {w w' : World} (hm : Mov F w w' F') (hd : ∀ k, G k → ¬ F k) (hlt : ∀ k, G k → k < w.heap.size) : ∀ k, G k → ¬ F' k := fun k hk e => by
  rcases hm.new k e with e | e
  · exact hd k hk e
  · have := hlt k hk; omega
theorem Grow.mov {w w' : World} {v v' : Value} (h : Grow w w' v v') : Mov (fun k => v.ownBlock = some k) w w' (fun k => v'.ownBlock = some k) :=
  ⟨h.keep, fun k hk => by
    rcases h.alt with e | ⟨e, _⟩
    · exact .inl (e ▸ hk)
    · exact .inr (e k hk)⟩
/-- two trees and two lists, that share nothing, from block B on -/
structure G5 (w : World) (B qt qc h : Nat) (Lt Lc Ll Lm : List (List UInt8)) (vl vm : Value) (Ft Fc : Nat → Prop) : Prop where
  t : TrL w qt h Lt Ft
  c : TrL w qc h Lc Fc
  ol : Own w B vl (svs Ll)
  om : Own w B vm (svs Lm)
  tc : ∀ k, Ft k → ¬ Fc k
  tl : ∀ k, vl.ownBlock = some k → ¬ Ft k
  tm : ∀ k, vm.ownBlock = some k → ¬ Ft k
  cl : ∀ k, vl.ownBlock = some k → ¬ Fc k
  cm : ∀ k, vm.ownBlock = some k → ¬ Fc k
  lm : ∀ k, vl.ownBlock = some k → vm.ownBlock ≠ some k
  bt : ∀ k, Ft k → B ≤ k
  bc : ∀ k, Fc k → B ≤ k
  sz : B ≤ w.heap.size
variable {w w' : World} {B qt qc h : Nat} {Lt Lc Ll Lm : List (List UInt8)} {vl vm : Value} {Ft Fc : Nat → Prop}
theorem G5.below (g : G5 w B qt qc h Lt Lc Ll Lm vl vm Ft Fc) (hb : Below w.heap.size w w') : G5 w' B qt qc h Lt Lc Ll Lm vl vm Ft Fc :=
  ⟨g.t.below hb, g.c.below hb, g.ol.below hb (Nat.le_refl _), g.om.below hb (Nat.le_refl _), g.tc, g.tl, g.tm, g.cl, g.cm, g.lm, g.bt, g.bc, Nat.le_trans g.sz hb.size⟩
theorem G5.addT {Lt' : List (List UInt8)} {F' : Nat → Prop} (g : G5 w B qt qc h Lt Lc Ll Lm vl vm Ft Fc) (hm : Mov Ft w w' F') (ht : TrL w' qt h Lt' F') : G5 w' B qt qc h Lt' Lc Ll Lm vl vm F' Fc ∧ Below B w w' := by
  obtain ⟨b1, b2⟩ := hm.below g.sz g.bt
  have d1 := dis_mov hm (G := Fc) (fun k hk e => g.tc k e hk) g.c.lt
  exact ⟨⟨ht, g.c.keep hm.keep fun k hk e => g.tc k e hk, g.ol.keep hm.keep g.tl, g.om.keep hm.keep g.tm, fun k hk e => d1 k e hk, dis_mov hm g.tl g.ol.ltS, dis_mov hm g.tm g.om.ltS, g.cl, g.cm, g.lm, b2, g.bc, Nat.le_trans g.sz b1.size⟩, b1⟩
theorem G5.addC {Lc' : List (List UInt8)} {F' : Nat → Prop} (g : G5 w B qt qc h Lt Lc Ll Lm vl vm Ft Fc) (hm : Mov Fc w w' F') (hc : TrL w' qc h Lc' F') : G5 w' B qt qc h Lt Lc' Ll Lm vl vm Ft F' ∧ Below B w w' := by
  obtain ⟨b1, b2⟩ := hm.below g.sz g.bc
  exact ⟨⟨g.t.keep hm.keep g.tc, hc, g.ol.keep hm.keep g.cl, g.om.keep hm.keep g.cm, dis_mov hm g.tc g.t.lt, g.tl, g.tm, dis_mov hm g.cl g.ol.ltS, dis_mov hm g.cm g.om.ltS, g.lm, g.bt, b2, Nat.le_trans g.sz b1.size⟩, b1⟩
theorem G5.pushL {Ll' : List (List UInt8)} {vl' : Value} (g : G5 w B qt qc h Lt Lc Ll Lm vl vm Ft Fc) (hg : Grow w w' vl vl') (ho : Own w' B vl' (svs Ll')) : G5 w' B qt qc h Lt Lc Ll' Lm vl' vm Ft Fc ∧ Below B w w' := by
  have hm := hg.mov
  obtain ⟨b1, b2⟩ := hm.below g.sz g.ol.ge
  have d1 := dis_mov hm (G := Ft) (fun k hk e => g.tl k e hk) g.t.lt
  have d2 := dis_mov hm (G := Fc) (fun k hk e => g.cl k e hk) g.c.lt
  have d3 := dis_mov hm (G := fun k => vm.ownBlock = some k) (fun k hk e => g.lm k e hk) g.om.ltS
  exact ⟨⟨g.t.keep hm.keep fun k hk e => g.tl k e hk, g.c.keep hm.keep fun k hk e => g.cl k e hk, ho, g.om.keep hm.keep fun k hk e => g.lm k e hk, g.tc, fun k hk e => d1 k e hk, g.tm, fun k hk e => d2 k e hk, g.cm, fun k hk e => d3 k e hk, g.bt, g.bc, Nat.le_trans g.sz b1.size⟩, b1⟩
theorem G5.pushM {Lm' : List (List UInt8)} {vm' : Value} (g : G5 w B qt qc h Lt Lc Ll Lm vl vm Ft Fc) (hg : Grow w w' vm vm') (ho : Own w' B vm' (svs Lm')) : G5 w' B qt qc h Lt Lc Ll Lm' vl vm' Ft Fc ∧ Below B w w' := by
  have hm := hg.mov
  obtain ⟨b1, b2⟩ := hm.below g.sz g.om.ge
  have d1 := dis_mov hm (G := Ft) (fun k hk e => g.tm k e hk) g.t.lt
  have d2 := dis_mov hm (G := Fc) (fun k hk e => g.cm k e hk) g.c.lt
  have d3 := dis_mov hm (G := fun k => vl.ownBlock = some k) (fun k hk e => g.lm k hk e) g.ol.ltS
  exact ⟨⟨g.t.keep hm.keep fun k hk e => g.tm k e hk, g.c.keep hm.keep fun k hk e => g.cm k e hk, g.ol.keep hm.keep fun k hk e => g.lm k hk e, ho, g.tc, g.tl, fun k hk e => d1 k e hk, g.cl, fun k hk e => d2 k e hk, d3, g.bt, g.bc, Nat.le_trans g.sz b1.size⟩, b1⟩
end Go.Proofs.YtagplmnnbjidmaaDoor
