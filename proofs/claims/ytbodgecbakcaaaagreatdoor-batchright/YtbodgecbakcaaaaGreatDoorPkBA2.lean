import Derived.Test.YtbodgecbakcaaaaGreatDoorPkBS1
import Derived.BigRegion
import Derived.Deep.CutRange
import Derived.Deep.CutBlock
import Derived.Deep.DeepCutAuto
import Derived.Deep.RegionHeld3
/- Layer 12, the law: asks: the lists that came out are taken (written by genBA2.py) -/
namespace Go.Proofs.YtbodgecbakcaaaaGreatDoor
open Go.RowKit Go.Shelf
namespace Bat
def K8 (X : Nat) (vf8 vw8 : Value) (k : Nat) : Prop := k = X ∨ vf8.ownBlock = some k ∨ vw8.ownBlock = some k
structure In (w8 w : World) (X : Nat) (vf8 vw8 : Value) (us8 cc8 : List Value) (vo : Value) (ns : List Value) (Is : List (List Value)) (vs : List Value) (k : Nat) (vf vw : Value) (us cc : List Value) (Ls : List (List (List UInt8))) : Prop where
  cx : Cx w X vf vw us cc Ls vo ns Is
  kp : Keep (K8 X vf8 vw8) w8 w
  sr : ∀ b, BkB X vf vw us cc b → BkB X vf8 vw8 us8 cc8 b ∨ (∃ (i : Nat) (u : Value), i < k ∧ vs[i]? = some u ∧ u.ownBlock = some b) ∨ w8.heap.size ≤ b
  sf : ∀ b, (vf.ownBlock = some b ∨ vw.ownBlock = some b) → (vf8.ownBlock = some b ∨ vw8.ownBlock = some b) ∨ w8.heap.size ≤ b
  ul : us.length = us8.length + k
  bX : Below X w8 w
section
variable {w8 w w' : World} {X : Nat} {vf8 vw8 : Value} {us8 cc8 : List Value} {Ls8 : List (List (List UInt8))} {vo : Value} {ns : List Value} {Is : List (List Value)} {vs : List Value} {k : Nat} {vf vw : Value} {us cc : List Value} {Ls : List (List (List UInt8))}
theorem In.start (h : Cx w8 X vf8 vw8 us8 cc8 Ls8 vo ns Is) : In w8 w8 X vf8 vw8 us8 cc8 vo ns Is vs 0 vf8 vw8 us8 cc8 Ls8 :=
  ⟨h, Keep.refl _ _, fun _ e => .inl e, fun _ e => .inl e, rfl, Below.refl _ _⟩
theorem In.below (h : In w8 w X vf8 vw8 us8 cc8 vo ns Is vs k vf vw us cc Ls) (hb : Below w.heap.size w w') : In w8 w' X vf8 vw8 us8 cc8 vo ns Is vs k vf vw us cc Ls :=
  ⟨h.cx.below hb, keep_bl h.kp hb, h.sr, h.sf, h.ul, h.bX.trans (hb.mono (Nat.le_of_lt h.cx.lx))⟩
theorem In.fr (h : In w8 w X vf8 vw8 us8 cc8 vo ns Is vs k vf vw us cc Ls) (ho : ∀ (i : Nat) (u : Value) (b : Nat), vs[i]? = some u → u.ownBlock = some b → b < w8.heap.size) (hF : ∀ (i : Nat) (u : Value), vs[i]? = some u → Fv X vf8 vw8 us8 cc8 vo ns u)
    (hd : ∀ (i j : Nat) (u v : Value) (b : Nat), vs[i]? = some u → vs[j]? = some v → u.ownBlock = some b → v.ownBlock = some b → i = j) {u : Value} (hu : vs[k]? = some u) : Fv X vf vw us cc vo ns u := fun b hb =>
  ⟨fun e => by
    rcases h.sr b e with e | ⟨i, u', h1, h2, h3⟩ | e
    · exact (hF k u hu b hb).1 e
    · have := hd i k u' u b h2 hu h3 hb; omega
    · have := ho k u b hu hb; omega, (hF k u hu b hb).2⟩
theorem In.next (h : In w8 w X vf8 vw8 us8 cc8 vo ns Is vs k vf vw us cc Ls) {u vf' vw' c : Value} {p : List (List UInt8)} {b : Nat} (hu : vs[k]? = some u) (T : Took w w' X X vf vw (.slice none 0 0) (.slice none 0 0) (.slice none 0 0) u us cc p vf' vw' c)
    (ho : Own w b u (svs p)) (hb : X ≤ b) (hl : p.length ≤ 1000000) (fr : Fv X vf vw us cc vo ns u) : In w8 w' X vf8 vw8 us8 cc8 vo ns Is vs (k + 1) vf' vw' (us ++ [u]) (cc ++ [c]) (Ls ++ [p]) := by
  obtain ⟨c1, c2⟩ := h.cx.took T ho hb hl fr
  have hs := h.kp.size
  refine ⟨c1, h.kp.trans T.keep fun j hj e => ?_, fun b e => ?_, fun b e => ?_, by rw [List.length_append, h.ul]; rfl, h.bX.trans c2⟩
  · rcases e with e | e | e
    · exact .inl e
    · rcases h.sf j (.inl e) with e | e
      · exact .inr e
      · omega
    · rcases h.sf j (.inr e) with e | e
      · exact .inr e
      · omega
  · rcases took_src T e with e | e | e
    · rcases h.sr b e with e | ⟨i, u', h1, h2⟩ | e
      · exact .inl e
      · exact .inr (.inl ⟨i, u', by omega, h2⟩)
      · exact .inr (.inr e)
    · exact .inr (.inl ⟨k, u, by omega, hu, e⟩)
    · exact .inr (.inr (Nat.le_trans hs e))
  · have : (vf.ownBlock = some b ∨ vw.ownBlock = some b) ∨ w.heap.size ≤ b := by
      rcases e with e | e
      · exact (T.srcF b e).imp .inl id
      · exact (T.srcW b e).imp .inr id
    rcases this with e | e
    · exact h.sf b e
    · exact .inr (Nat.le_trans hs e)
theorem In.keepM (h : In w8 w X vf8 vw8 us8 cc8 vo ns Is vs k vf vw us cc Ls) {x : Value} {n : Nat} {cx : List Value} (ox : OwnM 1 w8 x n cx) (hx : Fv X vf8 vw8 us8 cc8 vo ns x) : OwnM 1 w x n cx :=
  ox.keep h.kp fun b hb e => (hx b hb).1 (e.elim .inl fun e => e.elim (fun e => .inr (.inl e)) (fun e => .inr (.inr (.inl e))))
end
theorem OwnM.cellA {w : World} {a : Option Addr} {n c m : Nat} {cs : List Value} (h : OwnM 1 w (.slice a n c) m cs) {j : Nat} {u : Value} (hu : cs[j]? = some u) : ∃ g, a = some ⟨g, 0, none⟩ ∧ w.cell? ⟨g, j, none⟩ = some u ∧ g < w.heap.size := by
  obtain ⟨g, cap, e, h1, h2⟩ := h.cell hu
  exact ⟨g, by injection e, h1, h2⟩
theorem ownM_at {w : World} {a : Option Addr} {n c m : Nat} {p : List (List UInt8)} (h : OwnM 1 w (.slice a n c) m (svs p)) : At w a p := fun j x hx => by
  obtain ⟨g, e, h1, h2⟩ := OwnM.cellA h (j := j) (u := sv x) (by simp [svs, hx])
  subst e
  exact ⟨_, rfl, h2, by rw [Addr.add_mid, Nat.zero_add]; exact h1⟩
theorem ownM_own {w : World} {b : Nat} {v : Value} {cs : List Value} (h : OwnM 1 w v cs.length cs) (hb : ∀ k, v.ownBlock = some k → b ≤ k) : Own w b v cs := by
  rcases h with ⟨rfl, _, h⟩ | ⟨g, cap, rfl, h2, h3, h0, h4, h5, h6⟩
  · subst h; exact Own.nil _ _
  · rw [Nat.mul_one] at h5
    exact .inr ⟨g, cap, rfl, hb g rfl, h2, h3, h4, h5, h6⟩
structure Pq (w8 : World) (X : Nat) (vf8 vw8 : Value) (us8 cc8 : List Value) (vo : Value) (ns : List Value) (vp vq v15 v16 : Value) (vs vt : List Value) (ps : List (List (List UInt8))) (A C : List (List UInt8)) : Prop where
  pp : OwnM 1 w8 vp vs.length vs
  pf : Fv X vf8 vw8 us8 cc8 vo ns vp
  pX : ∀ b, vp.ownBlock = some b → X ≤ b
  pa : ∀ (i : Nat) (u : Value) (b : Nat), vs[i]? = some u → u.ownBlock = some b → vp.ownBlock ≠ some b
  qq : OwnM 1 w8 vq vt.length vt
  qf : Fv X vf8 vw8 us8 cc8 vo ns vq
  lp : vs.length = ps.length
  lq : vt.length = ps.length
  pe : ∀ (i : Nat) (u : Value) (p : List (List UInt8)), vs[i]? = some u → ps[i]? = some p → OwnM 1 w8 u p.length (svs p) ∧ Fv X vf8 vw8 us8 cc8 vo ns u ∧ ∀ b, u.ownBlock = some b → X ≤ b
  qe : ∀ (i : Nat) (u : Value) (p : List (List UInt8)), vt[i]? = some u → ps[i]? = some p → OwnM 1 w8 u p.length (svs p) ∧ Fv X vf8 vw8 us8 cc8 vo ns u
  di : ∀ (i j : Nat) (u v : Value) (b : Nat), vs[i]? = some u → vs[j]? = some v → u.ownBlock = some b → v.ownBlock = some b → i = j
  hh : OwnM 1 w8 v15 A.length (svs A)
  hf : Fv X vf8 vw8 us8 cc8 vo ns v15
  mm : OwnM 1 w8 v16 C.length (svs C)
  mf : Fv X vf8 vw8 us8 cc8 vo ns v16
  few : ps.length ≤ 256 ∧ ∀ p ∈ ps, p.length ≤ 1000
theorem Pq.get {w8 : World} {X : Nat} {vf8 vw8 : Value} {us8 cc8 : List Value} {vo : Value} {ns : List Value} {vp vq v15 v16 : Value} {vs vt : List Value} {ps : List (List (List UInt8))} {A C : List (List UInt8)} (h : Pq w8 X vf8 vw8 us8 cc8 vo ns vp vq v15 v16 vs vt ps A C) {i : Nat} {u : Value} (hu : vs[i]? = some u) : ∃ p, ps[i]? = some p :=
  ⟨_, List.getElem?_eq_getElem (by have := (List.getElem?_eq_some_iff.1 hu).1; have := h.lp; omega)⟩
structure Sa (w0 w : World) (q gi gh gl X : Nat) (n : Int) (cs : List Int) (aI aH : Option Addr) (nI nH nL cI cH : Nat) : Prop where
  tw : Tw w0 w gh gl nH nL
  row : RowZ w gi (cs ++ List.replicate 8 (-71))
  bt : BtI w q n (.slice aI nI cI) (.slice aH nH cH)
  lw : w0.heap.size ≤ q
  l1 : q < X
  l2 : gi < X
  l3 : gh < X
  l4 : gl < X
  l5 : X < w.heap.size
  n1 : q ≠ gh ∧ q ≠ gl
  n2 : gi ≠ gh ∧ gi ≠ gl
theorem btI_keep {w w' : World} {q : Nat} {n : Int} {a b : Value} (h : BtI w q n a b) (hb : w'.heap[q]? = w.heap[q]?) (_hs : w.heap.size ≤ w'.heap.size) : BtI w' q n a b := hb.trans h
section
variable {w0 w w' : World} {q gi gh gl X : Nat} {n : Int} {cs : List Int} {aI aH : Option Addr} {nI nH nL cI cH : Nat}
theorem Sa.belowX (h : Sa w0 w q gi gh gl X n cs aI aH nI nH nL cI cH) (hb : Below X w w') : Sa w0 w' q gi gh gl X n cs aI aH nI nH nL cI cH := by
  obtain ⟨A, C, a1, a2, h1, h2⟩ := h.tw.ex
  have hwX : w0.heap.size ≤ X := by have := h.lw; have := h.l1; omega
  exact ⟨⟨h.tw.bl.trans (hb.mono hwX), h.tw.g1, h.tw.g2, h.tw.ne, A, C, a1, a2, h1.below hb h.l3, h2.below hb h.l4⟩, h.row.below hb h.l2, btI_keep h.bt (hb.block q h.l1) hb.size, h.lw, h.l1, h.l2, h.l3, h.l4, Nat.lt_of_lt_of_le h.l5 hb.size, h.n1, h.n2⟩
theorem Sa.below (h : Sa w0 w q gi gh gl X n cs aI aH nI nH nL cI cH) (hb : Below w.heap.size w w') : Sa w0 w' q gi gh gl X n cs aI aH nI nH nL cI cH := h.belowX (hb.mono (Nat.le_of_lt h.l5))
theorem Sa.setH (h : Sa w0 w q gi gh gl X n cs aI aH nI nH nL cI cH) {i : Nat} (hi : i < nH) (p : List UInt8) : Sa w0 (w.setCell ⟨gh, i, none⟩ (sv p)) q gi gh gl X n cs aI aH nI nH nL cI cH :=
  ⟨h.tw.setH hi p, (heap_setCell_other _ _ _ _ h.n2.1).trans h.row, btI_keep h.bt (heap_setCell_other _ _ _ _ h.n1.1) (by simp [World.setCell]), h.lw, h.l1, h.l2, h.l3, h.l4, by simpa [World.setCell] using h.l5, h.n1, h.n2⟩
theorem Sa.setL (h : Sa w0 w q gi gh gl X n cs aI aH nI nH nL cI cH) {i : Nat} (hi : i < nL) (p : List UInt8) : Sa w0 (w.setCell ⟨gl, i, none⟩ (sv p)) q gi gh gl X n cs aI aH nI nH nL cI cH :=
  ⟨h.tw.setL hi p, (heap_setCell_other _ _ _ _ h.n2.2).trans h.row, btI_keep h.bt (heap_setCell_other _ _ _ _ h.n1.2) (by simp [World.setCell]), h.lw, h.l1, h.l2, h.l3, h.l4, by simpa [World.setCell] using h.l5, h.n1, h.n2⟩
end
theorem Cx.takes {w : World} {X : Nat} {vf vw : Value} {us cc : List Value} {Ls : List (List (List UInt8))} {vo : Value} {ns : List Value} {Is : List (List Value)} (h : Cx w X vf vw us cc Ls vo ns Is) (hl : us.length ≤ 1000000) {a : Option Addr} {n cap : Nat} {p : List (List UInt8)} (hn : p.length = n) (ho : OwnM 1 w (.slice a n cap) n (svs p)) (hX : ∀ b, (Value.slice a n cap).ownBlock = some b → X ≤ b) (hp : p.length ≤ 1000000) (fr : Fv X vf vw us cc vo ns (.slice a n cap)) :
    Calls Tryz.prog 25 #[.pointer (some ⟨X, 0, none⟩), .slice a n cap] w fun r w' => r = .returned (.tuple #[]) ∧ ∃ vf' vw' c, Took w w' X X vf vw (.slice none 0 0) (.slice none 0 0) (.slice none 0 0) (.slice a n cap) us cc p vf' vw' c := by
  subst hn
  have ho' : Own w X (.slice a p.length cap) (svs p) := ownM_own (by rw [svs_length]; exact ho) hX
  exact takes_any X X X vf vw (.slice none 0 0) (.slice none 0 0) (.slice none 0 0) a p.length cap us cc p w h.bk.row h.bk.free h.bk.was ho' (by omega) (by have := h.bk.l1; have := h.bk.l2; omega) (by omega) (Nat.le_of_lt h.lx) h.bk.dX.1 h.bk.dX.2 h.bk.dFW (fun k hk => ⟨(fr.fr k hk).1, (fr.fr k hk).2.1, (fr.fr k hk).2.2.1⟩)
def startsX (n : Nat) : Code → Bool
  | .region m _ _ => m == n
  | .seq a _ => startsX n a
  | _ => false
def fromX (n : Nat) : Code → Option Code
  | .seq a b => if startsX n a then some (.seq a b) else (match fromX n a with | some c => some c | none => fromX n b)
  | .block _ c => fromX n c
  | .loop c => fromX n c
  | .scope c => fromX n c
  | .cond _ a b => (match fromX n a with | some c => some c | none => fromX n b)
  | .region m x d => if m == n then some (.region m x d) else none
  | _ => none
theorem wpx_normal {P : Program} {s : Code} {Q : Exit → Act → World → Prop} {a : Act} {w : World} (h : s.wp P (Exit.then (fun a w => Q .normal a w) (fun _ _ _ => False)) a w) : s.wp P Q a w := by
  refine wp_mono h ?_
  intro e a' w' hq
  cases e <;> first | exact hq | exact hq.elim
noncomputable def asksB : Code := ((Tryz.f6.body.bind (fromX 31)).getD .skip)
set_option maxRecDepth 1000000 in
set_option maxHeartbeats 8000000 in
theorem asks_31 {w0 w8 : World} {q gi gh gl X : Nat} {n : Int} {cs : List Int} {aI aH : Option Addr} {nI nH nL cI cH : Nat} (S : Sa w0 w8 q gi gh gl X n cs aI aH nI nH nL cI cH) {vf8 vw8 : Value} {us8 cc8 : List Value} {Ls8 : List (List (List UInt8))} {oa ap aq a15 a16 : Option Addr} {on oc N cp cq c15 c16 : Nat} {ns : List Value} {Is : List (List Value)} (cx : Cx w8 X vf8 vw8 us8 cc8 Ls8 (.slice oa on oc) ns Is)
    {vs vt : List Value} {ps : List (List (List UInt8))} {A C : List (List UInt8)} (P : Pq w8 X vf8 vw8 us8 cc8 (.slice oa on oc) ns (.slice ap N cp) (.slice aq N cq) (.slice a15 nH c15) (.slice a16 nL c16) vs vt ps A C) (hN : ps.length = N) (RA : Row w8 gh (A ++ behind 8)) (RC : Row w8 gl (C ++ behind 8)) (hA : A.length = nH) (hC : C.length = nL) (hI : AtI w0 aI cs) (hnI : cs.length = nI)
    (b1 : nH ≤ 8796093021952) (b2 : nL ≤ 8796093021952) (b3 : nI ≤ 17592186043904) (hus : us8.length ≤ 1000) (hns : ns.length ≤ 1000)
    (u0 u1 u2 u4 u5 u6 u12 u13 u14 u17 u18 u19 u20 u21 u22 u23 u24 u26 u28 u29 u30 u31 u32 u33 u34 u35 u36 u37 u38 u39 u40 u41 u42 u43 u44 u45 u46 u47 u48 u49 u50 u51 u52 u53 u54 u55 u56 u57 u58 u59 u60 u61 u62 u63 u64 u65 u66 u67 u68 u69 u70 u71 u72 u73 u74 u75 u76 u77 u78 u79 u80 u81 u82 u83 u84 u85 u86 u87 u88 u89 u90 u91 u92 u93 u94 u95 u96 u97 u98 u99 u100 u101 u102 u103 u104 u105 u106 u107 u108 u109 u110 u111 u112 u113 u114 u115 u116 u117 u118 u119 u120 u121 u122 u123 u124 u125 u126 u127 u128 u129 u130 u131 u132 u133 u134 u135 u136 u137 u138 u139 u140 u141 u142 u143 u144 u145 u146 u147 u148 u149 u150 u151 u152 u153 u154 u155 u156 u157 u158 u159 u160 u161 u162 u163 u164 u165 u166 u167 u168 u169 u170 u171 u172 u173 u174 u175 u176 u177 u178 u179 u180 u181 u182 u183 u184 u185 u186 u187 u188 u189 u190 u191 u192 u193 u194 u195 u196 u197 u198 u199 u200 u201 u202 u203 u204 u205 u206 u207 u208 u209 u210 u211 u212 u213 u214 u215 u216 u217 u218 u219 u220 u221 u222 u223 u224 u225 u226 u227 u228 u229 u230 u231 u232 u233 u234 u235 u236 u237 u238 u239 u240 u241 u242 u243 u244 u245 u246 u247 u248 u249 u250 u251 u252 u253 u254 u255 u256 u257 u258 u259 u260 u261 u262 u263 u264 u265 u266 u267 u268 u269 u270 u271 u272 u273 u274 u275 u276 u277 u278 u279 u280 u281 : Value) (Q : Exit → Act → World → Prop) (hQ : ∀ (vo1 c6 c30 c31 c32 c33 c34 c217 c218 c219 c220 c221 c222 c223 c224 c225 c226 c227 c228 c229 c230 c231 c232 c233 c234 c235 c236 c237 c238 c239 c240 c241 c242 c243 c244 c245 c246 c247 c248 c249 c250 c251 c252 c253 c254 c255 c256 c257 c258 c259 c260 c261 c262 c263 : Value) (w' : World) (vf' vw' : Value) (us' cc' : List Value) (Ls' : List (List (List UInt8))), Cx w' X vf' vw' us' cc' Ls' vo1 (ns ++ [.slice ap N cp]) (Is ++ [vs]) → us'.length = us8.length + N → Below X w8 w' → Q .normal ⟨#[u0, u1, u2, .pointer (some ⟨q, 0, none⟩), u4, u5, c6, .slice (some ⟨gi, 0, none⟩) (nI + 8) (nI + 8), .slice (some ⟨gh, 0, none⟩) (nH + 8) (nH + 8), .slice (some ⟨gl, 0, none⟩) (nL + 8) (nL + 8), .pointer (some ⟨X, 0, none⟩), vo1, u12, u13, u14, .slice a15 nH c15, .slice a16 nL c16, u17, u18, u19, u20, u21, u22, u23, u24, .slice ap N cp, u26, .slice aq N cq, u28, u29, c30, c31, c32, c33, c34, u35, u36, u37, u38, u39, u40, u41, u42, u43, u44, u45, u46, u47, u48, u49, u50, u51, u52, u53, u54, u55, u56, u57, u58, u59, u60, u61, u62, u63, u64, u65, u66, u67, u68, u69, u70, u71, u72, u73, u74, u75, u76, u77, u78, u79, u80, u81, u82, u83, u84, u85, u86, u87, u88, u89, u90, u91, u92, u93, u94, u95, u96, u97, u98, u99, u100, u101, u102, u103, u104, u105, u106, u107, u108, u109, u110, u111, u112, u113, u114, u115, u116, u117, u118, u119, u120, u121, u122, u123, u124, u125, u126, u127, u128, u129, u130, u131, u132, u133, u134, u135, u136, u137, u138, u139, u140, u141, u142, u143, u144, u145, u146, u147, u148, u149, u150, u151, u152, u153, u154, u155, u156, u157, u158, u159, u160, u161, u162, u163, u164, u165, u166, u167, u168, u169, u170, u171, u172, u173, u174, u175, u176, u177, u178, u179, u180, u181, u182, u183, u184, u185, u186, u187, u188, u189, u190, u191, u192, u193, u194, u195, u196, u197, u198, u199, u200, u201, u202, u203, u204, u205, u206, u207, u208, u209, u210, u211, u212, u213, u214, u215, u216, c217, c218, c219, c220, c221, c222, c223, c224, c225, c226, c227, c228, c229, c230, c231, c232, c233, c234, c235, c236, c237, c238, c239, c240, c241, c242, c243, c244, c245, c246, c247, c248, c249, c250, c251, c252, c253, c254, c255, c256, c257, c258, c259, c260, c261, c262, c263, u264, u265, u266, u267, u268, u269, u270, u271, u272, u273, u274, u275, u276, u277, u278, u279, u280, u281], []⟩ w') :
    Code.wp Tryz.prog asksB Q ⟨#[u0, u1, u2, .pointer (some ⟨q, 0, none⟩), u4, u5, u6, .slice (some ⟨gi, 0, none⟩) (nI + 8) (nI + 8), .slice (some ⟨gh, 0, none⟩) (nH + 8) (nH + 8), .slice (some ⟨gl, 0, none⟩) (nL + 8) (nL + 8), .pointer (some ⟨X, 0, none⟩), .slice oa on oc, u12, u13, u14, .slice a15 nH c15, .slice a16 nL c16, u17, u18, u19, u20, u21, u22, u23, u24, .slice ap N cp, u26, .slice aq N cq, u28, u29, u30, u31, u32, u33, u34, u35, u36, u37, u38, u39, u40, u41, u42, u43, u44, u45, u46, u47, u48, u49, u50, u51, u52, u53, u54, u55, u56, u57, u58, u59, u60, u61, u62, u63, u64, u65, u66, u67, u68, u69, u70, u71, u72, u73, u74, u75, u76, u77, u78, u79, u80, u81, u82, u83, u84, u85, u86, u87, u88, u89, u90, u91, u92, u93, u94, u95, u96, u97, u98, u99, u100, u101, u102, u103, u104, u105, u106, u107, u108, u109, u110, u111, u112, u113, u114, u115, u116, u117, u118, u119, u120, u121, u122, u123, u124, u125, u126, u127, u128, u129, u130, u131, u132, u133, u134, u135, u136, u137, u138, u139, u140, u141, u142, u143, u144, u145, u146, u147, u148, u149, u150, u151, u152, u153, u154, u155, u156, u157, u158, u159, u160, u161, u162, u163, u164, u165, u166, u167, u168, u169, u170, u171, u172, u173, u174, u175, u176, u177, u178, u179, u180, u181, u182, u183, u184, u185, u186, u187, u188, u189, u190, u191, u192, u193, u194, u195, u196, u197, u198, u199, u200, u201, u202, u203, u204, u205, u206, u207, u208, u209, u210, u211, u212, u213, u214, u215, u216, u217, u218, u219, u220, u221, u222, u223, u224, u225, u226, u227, u228, u229, u230, u231, u232, u233, u234, u235, u236, u237, u238, u239, u240, u241, u242, u243, u244, u245, u246, u247, u248, u249, u250, u251, u252, u253, u254, u255, u256, u257, u258, u259, u260, u261, u262, u263, u264, u265, u266, u267, u268, u269, u270, u271, u272, u273, u274, u275, u276, u277, u278, u279, u280, u281], []⟩ w8 := by
  conv => arg 2; whnf
  have HS := hid S
  have HP := hid P
  have HRA := hid RA
  have HRC := hid RC
  have HI := hid hI
  have HA := hid hA
  have HC := hid hC
  have HN := hid hN
  have HnI := hid hnI
  have HQ := hid hQ
  have I0 : Hid (In w8 w8 X vf8 vw8 us8 cc8 (.slice oa on oc) ns Is vs 0 vf8 vw8 us8 cc8 Ls8) := In.start cx
  have hfew := hid P.few
  have hNb : N ≤ 256 := by have := hfew.out.1; have := HN.out; omega
  clear S cx P RA RC hI hA hC hN hnI hQ
  go_upto_region 32 with fail
  go_loopw [30] (fun i w' => ∃ (k : Nat) (vf vw : Value) (us cc : List Value) (Ls : List (List (List UInt8))), k ≤ N ∧ i = .int .i64 (k : Int) ∧ Hid (In w8 w' X vf8 vw8 us8 cc8 (.slice oa on oc) ns Is vs k vf vw us cc Ls)) (fun i _ => N - (intOf i).toNat)
  case atStart => exact ⟨0, vf8, vw8, us8, cc8, Ls8, by omega, rfl, I0⟩
  case round =>
    clear I0
    obtain ⟨k, vf, vw, us, cc, Ls, hk, rfl, HIn⟩ := hrel
    by_cases hkN : k < N
    · have y0 : (k : Int) < (N : Int) := by omega
      have y1 : (0 : Int) ≤ (k : Int) := by omega
      obtain ⟨p, hp⟩ : ∃ p, ps[k]? = some p := ⟨_, List.getElem?_eq_getElem (by rw [HN.out]; exact hkN)⟩
      obtain ⟨u, hu⟩ : ∃ u, vs[k]? = some u := ⟨_, List.getElem?_eq_getElem (by have := HP.out.lp; have := HN.out; omega)⟩
      obtain ⟨t, ht⟩ : ∃ t, vt[k]? = some t := ⟨_, List.getElem?_eq_getElem (by have := HP.out.lq; have := HN.out; omega)⟩
      obtain ⟨o1, f1, x1⟩ := HP.out.pe k u p hu hp
      obtain ⟨o2, f2⟩ := HP.out.qe k t p ht hp
      have hpl := hfew.out.2 p (List.mem_of_getElem? hp)
      have O1 := HIn.out.keepM o1 f1
      have O2 := HIn.out.keepM o2 f2
      obtain ⟨ua, uc, rfl, A1, _⟩ := own_atM O1
      obtain ⟨ta, tc, rfl, A2, _⟩ := own_atM O2
      obtain ⟨gp, hap, d0, gp1⟩ := OwnM.cellA (HIn.out.keepM HP.out.pp HP.out.pf) hu
      obtain ⟨gq, haq, d1, gq1⟩ := OwnM.cellA (HIn.out.keepM HP.out.qq HP.out.qf) ht
      subst hap haq
      have hs := fun w'' (hb : Below wr.heap.size wr w'') => same_yes p ua ta uc tc w'' (A1.below hb (Nat.le_refl _)) (A2.below hb (Nat.le_refl _)) (by omega)
      have FU := hid (HIn.out.fr (fun i u b hu hb => by
        obtain ⟨p', hp'⟩ := HP.out.get hu
        exact (HP.out.pe i u p' hu hp').1.lt b hb) (fun i u hu => by
        obtain ⟨p', hp'⟩ := HP.out.get hu
        exact (HP.out.pe i u p' hu hp').2.1) HP.out.di hu)
      have hul : us.length ≤ 1000000 := by have := HIn.out.ul; have := hfew.out.1; have := HN.out; omega
      obtain ⟨m, hm⟩ : ∃ m, p.length = m := ⟨_, rfl⟩
      have HM := hid hm
      rw [hm] at d0 d1 hs O1 x1 hpl
      have FU' : Hid (Fv X vf vw us cc (.slice oa on oc) ns (.slice ua m uc)) := by rw [← hm]; exact FU.out
      have hu' : Hid (vs[k]? = some (.slice ua m uc)) := by rw [← hm]; exact hu
      have HX1 := hid x1
      have HO1 := hid O1
      have gp2 := hid gp1
      clear o1 o2 f1 f2 O2 A1 A2 hu ht hp FU x1 O1 hm gq1 gp1
      go_wp2
      go_region_held3 (fun W => W.cell? ⟨gp, k, none⟩ = some (.slice ua m uc) ∧ W.cell? ⟨gq, k, none⟩ = some (.slice ta m tc)) (first | exact e4 | exact ⟨d0, d1⟩)
        (first | (go_at_call 24; (with_reducible refine (hs wr.drew (Below.refl _ _).drew).mono ?_); rintro e w2 ⟨rfl, hw2, hh2'⟩; have hh2 : w2.heap = wr.heap := hh2'; have e4 := And.intro ((heapCell hh2 ⟨gp, k, none⟩).trans d0) ((heapCell hh2 ⟨gq, k, none⟩).trans d1)))
      have B2 : Below wr.heap.size wr w2 := (Below.refl wr.heap.size wr).drew.trans hw2
      have I2 := HIn.out.below B2
      have hT := I2.cx.takes hul HM.out (HO1.out.below B2) HX1.out (by rw [HM.out]; omega) FU'.out
      have HI2 := hid I2
      have HO2 := hid (HO1.out.below B2)
      have e5 := e4.1
      clear HIn B2 I2 hw2 hh2 hh2' d0 d1 e4
      go_wp2_with (go_at_call 25; (with_reducible refine hT.mono ?_); rintro r w3 ⟨rfl, vf', vw', c, TK⟩; have HTK := hid TK; clear TK)
      have IN := hid (HI2.out.next hu'.out HTK.out (ownM_own (by rw [svs_length, HM.out]; exact HO2.out) HX1.out) (Nat.le_refl _) (by rw [HM.out]; omega) FU'.out)
      refine ⟨?_, by simp [intOf]; omega⟩
      first
        | exact ⟨k + 1, vf', vw', _, _, _, by omega, by go_num, IN⟩
        | (repeat apply Exists.intro
           exact ⟨⟨k + 1, vf', vw', _, _, _, by omega, by go_num, IN⟩, rfl⟩)
    · obtain rfl : N = k := by omega
      have y0 : ¬ (N : Int) < (N : Int) := by omega
      have hul := HIn.out.ul
      obtain ⟨vo1, w3, hap, ho3, hg3⟩ := Od.append_sss wr (.slice oa on oc) ns ap N cp HIn.out.cx.nm.lst (by omega)
      have PP := HIn.out.keepM HP.out.pp HP.out.pf
      have hvl : vs.length ≤ 256 := by have := HP.out.lp; have := hfew.out.1; omega
      obtain ⟨c3, b3'⟩ := HIn.out.cx.push PP hvl HP.out.pX (fun b hb => ⟨fun e => by
        rcases HIn.out.sr b e with e | ⟨i, u, _, h2, h3⟩ | e
        · exact (HP.out.pf b hb).1 e
        · exact HP.out.pa i u b h2 h3 hb
        · have := HP.out.pp.lt b hb; omega, (HP.out.pf b hb).2⟩) hg3 ho3
      have B3 := HIn.out.bX.trans b3'
      have S3 := HS.out.belowX B3
      have OH := (HIn.out.keepM HP.out.hh HP.out.hf).keep hg3.keepQ (fun b hb e => (HP.out.hf b hb).2 (.inl e))
      have OM := (HIn.out.keepM HP.out.mm HP.out.mf).keep hg3.keepQ (fun b hb e => (HP.out.mf b hb).2 (.inl e))
      have A15 := ownM_at OH
      have A16 := ownM_at OM
      have R15 := HRA.out.below B3 HS.out.l3
      have R16 := HRC.out.below B3 HS.out.l4
      have iKh := hid fun (w' : World) (hb : Below w3.heap.size w3 w') => kept_yes A gh a15 c15 w' (by rw [HA.out]; exact b1) (R15.below hb R15.lt) (A15.below hb (Nat.le_refl _))
      have iKl := hid fun (w' : World) (hb : Below w3.heap.size w3 w') => kept_yes C gl a16 c16 w' (by rw [HC.out]; exact b2) (R16.below hb R16.lt) (A16.below hb (Nat.le_refl _))
      have iKi := hid fun (w' : World) (hb : Below w3.heap.size w3 w') => keptInts12_any cs gi (nI + 8) aI cI w' (by rw [HnI.out]; omega) (by rw [HnI.out]; omega) (S3.below hb).row (HI.out.below (S3.below hb).tw.bl (Nat.le_refl _))
      rw [HA.out] at iKh
      rw [HC.out] at iKl
      rw [HnI.out] at iKi
      have SQ : Hid (∀ w', Below w3.heap.size w3 w' → w'.cell? ⟨q, 1, none⟩ = some (.slice aI nI cI)) := fun w' hb => (S3.below hb).bt.c1
      have HC3 := hid c3
      have HB3 := hid B3
      have hX3 := hid c3.lx
      clear HIn HP HS HRA HRC PP OH OM A15 A16 R15 R16 S3 c3 B3 b3' ho3 hg3 HI HN HA HC HnI hfew
      go_upto_region 39 with (first | ((with_reducible show wpList _ _ _ (Oper.mk _ (Op.call { callee := Callee.builtin Builtin.append, args := _, argTypes := #[52, 52] }) _ _ _ _ :: _) _ _); go_must (refine Lib.wpList_append_run _ rfl _ _ 52 52 rfl _ _ rfl rfl _ _ hap ?_)))
      go_upto_region 40 with (go_at_call 26; (with_reducible refine (iKh.out _ (Below.refl _ _)).mono ?_); rintro r w4 ⟨rfl, b4, _⟩)
      go_upto_region 41 with (go_at_call 26; (with_reducible refine (iKl.out _ b4).mono ?_); rintro r w5 ⟨rfl, b5', _⟩)
      have b5 := b4.trans (b5'.mono b4.size)
      have k1 := SQ.out _ b5
      clear b5' b4
      go_upto_region 42 with (go_at_call 27; (with_reducible refine (iKi.out _ b5).mono ?_); rintro r w6 ⟨rfl, b6', _⟩)
      have b6 := hid (b5.trans (b6'.mono b5.size))
      clear b6' b5 k1
      go_wp2
      exact HQ.out _ _ _ _ _ _ _ _ _ _ _ _ _ _ _ _ _ _ _ _ _ _ _ _ _ _ _ _ _ _ _ _ _ _ _ _ _ _ _ _ _ _ _ _ _ _ _ _ _ _ _ _ _ _ _ _ _ _ _ _ (HC3.out.below b6.out) hul (HB3.out.trans (b6.out.mono (Nat.le_of_lt hX3.out)))
end Bat
end Go.Proofs.YtbodgecbakcaaaaGreatDoor
