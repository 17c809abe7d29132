import Derived.Test.YtkamjpjmdibfgaaPkKL2
import Derived.Deep.CutRange
import Derived.Deep.DeepCutAuto
import Derived.Deep.LoopGhost
/- Layer 15, CacheBounds: a call, and then a store -/
namespace Go.Proofs.Ytkamjpjmdibfgaa
open Go.RowKit Go.Maps
namespace Kc
structure Bz (w0 w : World) (a : Nat) (g : Option Nat) (B c : Nat) (L : List En) (f m o : Nat) (vk vv vp : Value) (K V : List (List UInt8)) (P : List Nat) : Prop where
  cs : Cs w0 w a g B c L f m o
  ok : Own w w0.heap.size vk (svs K)
  ov : Own w w0.heap.size vv (svs V)
  op : Own w w0.heap.size vp (pz P)
  dk : ∀ k, vk.ownBlock = some k → ¬ Fg a g L k ∧ vv.ownBlock ≠ some k ∧ vp.ownBlock ≠ some k
  dv : ∀ k, vv.ownBlock = some k → ¬ Fg a g L k ∧ vp.ownBlock ≠ some k
  dp : ∀ k, vp.ownBlock = some k → ¬ Fg a g L k
theorem Bd.z {w0 w : World} {a : Nat} {g : Option Nat} {B c : Nat} {L : List En} {f m o : Nat} {vk vv vp : Value} {K V : List (List UInt8)} {P : List Nat} (h : Bd w0 w a g B c L f m o vk vv vp K V P) : Bz w0 w a g B c L f m o vk vv vp K V P := ⟨h.cs, h.ok, h.ov, h.op, h.dk, h.dv, h.dp⟩
theorem Bz.bd {w0 w : World} {a : Nat} {g : Option Nat} {B c : Nat} {L : List En} {f m o : Nat} {vk vv vp : Value} {K V : List (List UInt8)} {P : List Nat} (h : Bz w0 w a g B c L f m o vk vv vp K V P) (hb : Bm L K V P) : Bd w0 w a g B c L f m o vk vv vp K V P := ⟨h.cs, h.ok, h.ov, h.op, h.dk, h.dv, h.dp, hb⟩
theorem Bz.opd {w0 w : World} {a : Nat} {g : Option Nat} {B c : Nat} {L : List En} {f m o : Nat} {vk vv vp : Value} {K V : List (List UInt8)} {P : List Nat} {w' : World} {g' : Option Nat} {L' : List En} {f' m' o' : Nat} (h : Bz w0 w a g B c L f m o vk vv vp K V P) (k : Op w a g B c L w' g' L' f' m' o') : Bz w0 w' a g' B (c + 1) L' f' m' o' vk vv vp K V P := by
  have hn : ∀ x, x < w.heap.size → ¬ Fg a g L x → ¬ Fg a g' L' x := fun x hx h1 h2 => by
    rcases k.fg x h2 with h3 | h3
    · exact h1 h3
    · omega
  exact ⟨h.cs.op k, own_keep h.ok k.kp fun x hx => (h.dk x hx).1, own_keep h.ov k.kp fun x hx => (h.dv x hx).1, own_keep h.op k.kp fun x hx => h.dp x hx,
    fun x hx => ⟨hn x (own_lt h.ok x hx) (h.dk x hx).1, (h.dk x hx).2⟩, fun x hx => ⟨hn x (own_lt h.ov x hx) (h.dv x hx).1, (h.dv x hx).2⟩, fun x hx => hn x (own_lt h.op x hx) (h.dp x hx)⟩
theorem Bz.setV {w0 w : World} {a : Nat} {g : Option Nat} {B c : Nat} {L : List En} {f m o : Nat} {vk vp : Value} {gv cap : Nat} {K V : List (List UInt8)} {P : List Nat} {n : Nat} (h : Bz w0 w a g B c L f m o vk (.slice (some ⟨gv, 0, none⟩) n cap) vp K V P) {j : Nat} (hj : j < V.length) (x : List UInt8) : Bz w0 (w.setCell ⟨gv, j, none⟩ (.string ⟨x.toArray⟩)) a g B c L f m o vk (.slice (some ⟨gv, 0, none⟩) n cap) vp K (V.set j x) P := by
  have hk : Keep (fun k => k = gv) w (w.setCell ⟨gv, j, none⟩ (.string ⟨x.toArray⟩)) := keep_one (S := fun k => k = gv) w rfl _ _
  have hov := h.ov
  obtain ⟨g0, cap0, e0, _, _⟩ := own_shape h.ov (j := j) (by rw [svs_length]; exact hj)
  injection e0 with e1 e2 e3
  rw [e2] at hov ⊢
  have e4 : (svs V).length = (svs (V.set j x)).length := by simp [svs]
  refine ⟨h.cs.kept hk (fun k hf e => (h.dv k (by rw [e]; rfl)).1 hf) (fun k e => h.ov.ge k (by rw [e]; rfl)), own_keep h.ok hk fun k hv e => (h.dk k hv).2.1 (by rw [e]; rfl), ?_, own_keep h.op hk fun k hv e => (h.dv k (by rw [e]; rfl)).2 hv, fun k hv => ⟨(h.dk k hv).1, (h.dk k hv).2⟩, h.dv, h.dp⟩
  have := own_set hov (j := j) (by rw [svs_length]; exact hj) (.string ⟨x.toArray⟩)
  rw [show (svs V).set j (.string ⟨x.toArray⟩) = svs (V.set j x) by simp [svs, List.map_set]; rfl] at this
  rw [e4]
  exact this
theorem Bz.setP {w0 w : World} {a : Nat} {g : Option Nat} {B c : Nat} {L : List En} {f m o : Nat} {vk vv : Value} {gv cap : Nat} {K V : List (List UInt8)} {P : List Nat} {n : Nat} (h : Bz w0 w a g B c L f m o vk vv (.slice (some ⟨gv, 0, none⟩) n cap) K V P) {j : Nat} (hj : j < P.length) (x : Nat) : Bz w0 (w.setCell ⟨gv, j, none⟩ (.int .i64 (x : Int))) a g B c L f m o vk vv (.slice (some ⟨gv, 0, none⟩) n cap) K V (P.set j x) := by
  have hk : Keep (fun k => k = gv) w (w.setCell ⟨gv, j, none⟩ (.int .i64 (x : Int))) := keep_one (S := fun k => k = gv) w rfl _ _
  have hop := h.op
  obtain ⟨g0, cap0, e0, _, _⟩ := own_shape h.op (j := j) (by rw [pz_len]; exact hj)
  injection e0 with e1 e2 e3
  rw [e2] at hop ⊢
  have e4 : (pz P).length = (pz (P.set j x)).length := by simp [pz]
  refine ⟨h.cs.kept hk (fun k hf e => h.dp k (by rw [e]; rfl) hf) (fun k e => h.op.ge k (by rw [e]; rfl)), own_keep h.ok hk fun k hv e => (h.dk k hv).2.2 (by rw [e]; rfl), own_keep h.ov hk fun k hv e => (h.dv k hv).2 (by rw [e]; rfl), ?_, h.dk, h.dv, h.dp⟩
  have := own_set hop (j := j) (by rw [pz_len]; exact hj) (.int .i64 (x : Int))
  rw [show (pz P).set j (.int .i64 (x : Int)) = pz (P.set j x) by simp [pz, List.map_set]] at this
  rw [e4]
  exact this
theorem Be.put {w0 w w' : World} {a : Nat} {g g' : Option Nat} {B c : Nat} {L L' : List En} {f m o f' m' o' : Nat} {gk gv gp ck cv cp N : Nat} {K V : List (List UInt8)} {P : List Nat} {q : Nat} {fl : Bool} {kd nn : Int} {KB VB : ByteArray} (h : Be w0 w a g B c L f m o (.slice (some ⟨gk, 0, none⟩) N ck) (.slice (some ⟨gv, 0, none⟩) N cv) (.slice (some ⟨gp, 0, none⟩) N cp) K V P q fl kd nn KB VB) (k : Op w a g B c L w' g' L' f' m' o') {j : Nat} (hj : j < V.length) (x : List UInt8) (hb : Bm L' K (V.set j x) P) : Be w0 (w'.setCell ⟨gv, j, none⟩ (.string ⟨x.toArray⟩)) a g' B (c + 1) L' f' m' o' (.slice (some ⟨gk, 0, none⟩) N ck) (.slice (some ⟨gv, 0, none⟩) N cv) (.slice (some ⟨gp, 0, none⟩) N cp) K (V.set j x) P q fl kd nn KB VB := by
  refine ⟨((h.bd.z.opd k).setV hj x).bd hb, ?_, fun hf => ?_, h.nk, h.nv, h.np⟩
  · have hne : q ≠ gv := fun e => h.nv (by rw [e]; rfl)
    exact (heap_setCell_other _ _ _ _ hne).trans ((k.kp.block q (lt_of_heap h.rq) h.nf).trans h.rq)
  · rcases k.fg q hf with h1 | h1
    · exact h.nf h1
    · have := lt_of_heap h.rq
      omega
theorem Be.pin {w0 w w' : World} {a : Nat} {g g' : Option Nat} {B c : Nat} {L L' : List En} {f m o f' m' o' : Nat} {gk gv gp ck cv cp N : Nat} {K V : List (List UInt8)} {P : List Nat} {q : Nat} {fl : Bool} {kd nn : Int} {KB VB : ByteArray} (h : Be w0 w a g B c L f m o (.slice (some ⟨gk, 0, none⟩) N ck) (.slice (some ⟨gv, 0, none⟩) N cv) (.slice (some ⟨gp, 0, none⟩) N cp) K V P q fl kd nn KB VB) (k : Op w a g B c L w' g' L' f' m' o') {j : Nat} (hj : j < P.length) (x : Nat) (hb : Bm L' K V (P.set j x)) : Be w0 (w'.setCell ⟨gp, j, none⟩ (.int .i64 (x : Int))) a g' B (c + 1) L' f' m' o' (.slice (some ⟨gk, 0, none⟩) N ck) (.slice (some ⟨gv, 0, none⟩) N cv) (.slice (some ⟨gp, 0, none⟩) N cp) K V (P.set j x) q fl kd nn KB VB := by
  refine ⟨((h.bd.z.opd k).setP hj x).bd hb, ?_, fun hf => ?_, h.nk, h.nv, h.np⟩
  · have hne : q ≠ gp := fun e => h.np (by rw [e]; rfl)
    exact (heap_setCell_other _ _ _ _ hne).trans ((k.kp.block q (lt_of_heap h.rq) h.nf).trans h.rq)
  · rcases k.fg q hf with h1 | h1
    · exact h.nf h1
    · have := lt_of_heap h.rq
      omega
end Kc
end Go.Proofs.Ytkamjpjmdibfgaa
