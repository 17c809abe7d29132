import Derived.Test.YtbodgecbakcaaaaGreatDoorPkBL8
/- Layer 12, the law: lists of lists that are written over and grown (written by genBL9.py out of SJ1) -/
namespace Go.Proofs.YtbodgecbakcaaaaGreatDoor
open Go.RowKit Go.Shelf
namespace Bat
namespace Od
def MkV (w : World) (v : Value) (P : Value → Prop) : Prop := ∃ a n c, v = .slice a n c ∧ n ≤ 9223372036854775807 ∧ ∀ j, j < n → ∃ g e, a = some ⟨g, 0, none⟩ ∧ g < w.heap.size ∧ w.cell? ⟨g, j, none⟩ = some e ∧ P e
theorem MkV.kept {w w' : World} {v : Value} {P : Value → Prop} (h : MkV w v P) (hs : w.heap.size ≤ w'.heap.size) (hb : ∀ k, v.ownBlock = some k → k < w.heap.size → w'.heap[k]? = w.heap[k]?) : MkV w' v P := by
  obtain ⟨a, n, c, rfl, h1, h2⟩ := h
  refine ⟨a, n, c, rfl, h1, fun j hj => ?_⟩
  obtain ⟨g, e, rfl, h3, h4, h5⟩ := h2 j hj
  exact ⟨g, e, rfl, by omega, (World.cell?_of_block (a := ⟨g, j, none⟩) (hb g rfl h3)).trans h4, h5⟩
theorem own_mkV {w : World} {v : Value} {L : List Value} {P : Value → Prop} (h : OwnM 1 w v L.length L) (hP : ∀ u ∈ L, P u) : MkV w v P := by
  obtain ⟨a, c, e, h1, h2⟩ := h.shape
  refine ⟨a, L.length, c, e, by omega, fun j hj => ?_⟩
  obtain ⟨g, c', e1, h3, h4⟩ := h.cell (List.getElem?_eq_getElem hj)
  rw [e1] at e
  injection e with e3
  exact ⟨g, L[j], e3.symm, h4, h3, hP _ (List.getElem_mem hj)⟩
structure Ow (S0 : Nat → Prop) (w0 : World) (gl : Nat) (vs : List Value) (mk : Nat → Value → Prop) (p : Nat) (cs : Nat → List Value) (ρ : Nat → Nat) (w : World) (va : Value) (ls : List Value) : Prop where
  kp : Keep S0 w0 w
  lo : ∀ k, k < w0.heap.size → ¬ S0 k → ρ k = 0
  gr : w.rangeAt gl 0 vs
  rg : ρ gl = 0
  lg : gl < w.heap.size
  own : ∀ (j : Nat) (v : Value), p ≤ j → vs[j]? = some v → OwnM 1 w v (cs j).length (cs j) ∧ ∀ k, v.ownBlock = some k → ρ k = 3 + j
  oa : OwnM 1 w va ls.length ls
  ra : ∀ k, va.ownBlock = some k → ρ k = 1
  mrk : ∀ (t : Nat) (v : Value), ls[t]? = some v → MkV w v (mk (t / 20)) ∧ ∀ k, v.ownBlock = some k → k < w.heap.size ∧ ρ k = 3 + t / 20
section
variable {S0 : Nat → Prop} {w0 w w' : World} {gl : Nat} {vs : List Value} {mk : Nat → Value → Prop} {p : Nat} {cs : Nat → List Value} {ρ : Nat → Nat} {va vw va' vw' : Value} {ls : List Value} {lw r : Nat}
theorem keep_wr (hk : Keep S0 w0 w) (lo : ∀ k, k < w0.heap.size → ¬ S0 k → ρ k = 0) (hw : Wr ρ r w w') (h0 : r ≠ 0) : Keep S0 w0 w' :=
  ⟨hw.os.trans hk.os, hw.tape.trans hk.tape, hw.output.trans hk.output, Nat.le_trans hk.size hw.size, fun k h1 h2 => (hw.block k (Nat.lt_of_lt_of_le h1 hk.size) (by rw [lo k h1 h2]; exact fun e => h0 e.symm)).trans (hk.block k h1 h2)⟩
theorem Ow.below (h : Ow S0 w0 gl vs mk p cs ρ w va ls) (hb : Below w.heap.size w w') : Ow S0 w0 gl vs mk p cs (rx ρ w 0) w' va ls where
  kp := keep_wr (r := 1) h.kp h.lo (Wr.below hb) (by omega)
  lo := fun k h1 h2 => by rw [rx_old (Nat.lt_of_lt_of_le h1 h.kp.size)]; exact h.lo k h1 h2
  gr := rangeAt_heap h.gr (hb.block gl h.lg)
  rg := by rw [rx_old h.lg]; exact h.rg
  lg := Nat.lt_of_lt_of_le h.lg hb.size
  own := fun j v hj e => by
    obtain ⟨a, b⟩ := h.own j v hj e
    exact ⟨a.below hb, fun k hk => by rw [rx_old (a.lt k hk)]; exact b k hk⟩
  oa := h.oa.below hb
  ra := fun k hk => by rw [rx_old (h.oa.lt k hk)]; exact h.ra k hk
  mrk := fun t v e => by
    obtain ⟨a, b⟩ := h.mrk t v e
    exact ⟨a.kept hb.size (fun k _ hl => hb.block k hl), fun k hk => ⟨Nat.lt_of_lt_of_le (b k hk).1 hb.size, by rw [rx_old (b k hk).1]; exact (b k hk).2⟩⟩
theorem Ow.set {i g n c k : Nat} (h : Ow S0 w0 gl vs mk p cs ρ w va []) (hp : p ≤ i) (e : vs[i]? = some (.slice (some ⟨g, 0, none⟩) n c)) (hk : k < (cs i).length) (u : Value) :
    Ow S0 w0 gl vs mk p (fun j => if j = i then (cs i).set k u else cs j) ρ (w.setCell ⟨g, k, none⟩ u) va [] ∧ (∃ y, w.cell? ⟨g, k, none⟩ = some y) ∧ w.frozen? ⟨g, k, none⟩ = false := by
  obtain ⟨a, b⟩ := h.own i _ hp e
  have hn : (cs i).length = n := by
    obtain ⟨a1, c1, e1, _, _⟩ := a.shape
    injection e1 with _ e2 _
    exact e2.symm
  rw [hn] at a
  obtain ⟨o1, o2, o3⟩ := a.set hk u
  have rg := b g rfl
  have hw : Wr ρ (3 + i) w (w.setCell ⟨g, k, none⟩ u) := (Wr.refl ρ (3 + i) w).setCell (fun _ => rg) _ _
  have hs : w.heap.size ≤ (w.setCell ⟨g, k, none⟩ u).heap.size := hw.size
  refine ⟨?_, o2, o3⟩
  constructor
  case kp => exact keep_wr h.kp h.lo hw (by omega)
  case lo => exact h.lo
  case gr => exact rangeAt_heap h.gr (hw.block gl h.lg (by rw [h.rg]; omega))
  case rg => exact h.rg
  case lg => exact Nat.lt_of_lt_of_le h.lg hs
  case own =>
    intro j v hj ej
    by_cases hji : j = i
    · subst hji
      obtain rfl : Value.slice (some ⟨g, 0, none⟩) n c = v := Option.some.inj (e.symm.trans ej)
      rw [if_pos rfl, List.length_set, hn]
      exact ⟨o1, b⟩
    · rw [if_neg hji]
      obtain ⟨a', b'⟩ := h.own j v hj ej
      exact ⟨a'.kept hs (fun g' hg' => hw.block g' (a'.lt g' hg') (by rw [b' g' hg']; omega)), b'⟩
  case oa => exact h.oa.kept hs (fun g' hg' => hw.block g' (h.oa.lt g' hg') (by rw [h.ra g' hg']; omega))
  case ra => exact h.ra
  case mrk => exact fun t v e => by cases e
theorem Ow.pushA {x : Value} (h : Ow S0 w0 gl vs mk p cs ρ w va ls) (hg : Grow w w' va va') (ho : OwnM 1 w' va' (ls.length + 1) (ls ++ [x])) (hx : MkV w x (mk (ls.length / 20))) (hr : ∀ k, x.ownBlock = some k → k < w.heap.size ∧ ρ k = 3 + ls.length / 20) :
    Ow S0 w0 gl vs mk p cs (rx ρ w 1) w' va' (ls ++ [x]) := by
  have hw : Wr ρ 1 w w' := Wr.grow hg h.ra
  have hs := hw.size
  constructor
  case kp => exact keep_wr h.kp h.lo hw (by omega)
  case lo => exact fun k h1 h2 => by rw [rx_old (Nat.lt_of_lt_of_le h1 h.kp.size)]; exact h.lo k h1 h2
  case gr => exact rangeAt_heap h.gr (hw.block gl h.lg (by rw [h.rg]; omega))
  case rg => rw [rx_old h.lg]; exact h.rg
  case lg => exact Nat.lt_of_lt_of_le h.lg hs
  case own =>
    intro j v hj ej
    obtain ⟨a', b'⟩ := h.own j v hj ej
    exact ⟨a'.kept hs (fun g' hg' => hw.block g' (a'.lt g' hg') (by rw [b' g' hg']; omega)), fun k hk => by rw [rx_old (a'.lt k hk)]; exact b' k hk⟩
  case oa => rw [List.length_append]; exact ho
  case ra => exact Wr.own hg h.ra h.oa.lt
  case mrk =>
    intro t v e
    rw [List.getElem?_append] at e
    split at e
    · obtain ⟨a, b⟩ := h.mrk t v e
      exact ⟨a.kept hs (fun k hk hl => hw.block k hl (by rw [(b k hk).2]; omega)), fun k hk => ⟨Nat.lt_of_lt_of_le (b k hk).1 hs, by rw [rx_old (b k hk).1]; exact (b k hk).2⟩⟩
    · next hj =>
      have ht := (List.getElem?_eq_some_iff.1 e).1
      simp at ht
      obtain rfl : t = ls.length := by omega
      rw [Nat.sub_self] at e
      obtain rfl : x = v := Option.some.inj e
      exact ⟨hx.kept hs (fun k hk hl => hw.block k hl (by rw [(hr k hk).2]; omega)), fun k hk => ⟨Nat.lt_of_lt_of_le (hr k hk).1 hs, by rw [rx_old (hr k hk).1]; exact (hr k hk).2⟩⟩
structure Ox (S0 : Nat → Prop) (w0 : World) (gl : Nat) (vs : List Value) (mk : Nat → Value → Prop) (i q : Nat) (L : List Value) (cs : Nat → List Value) (ρ : Nat → Nat) (w : World) (va : Value) (ls : List Value) (x : Value) : Prop where
  b : Ow S0 w0 gl vs mk (i + 1) cs ρ w va ls
  ox : OwnM 1 w x L.length L
  al : ∀ u ∈ L, mk i u
  rx_ : ∀ k, x.ownBlock = some k → ρ k = 3 + i
  ll : ls.length = 20 * i + q
  sn : ∀ (t : Nat) (u : Value), ls[t]? = some u → t / 20 = i → ∃ a m c, u = .slice a m c ∧ m ≤ L.length
theorem Ow.take {i : Nat} {v : Value} (h : Ow S0 w0 gl vs mk i cs ρ w va ls) (e : vs[i]? = some v) (hc : ∀ u ∈ cs i, mk i u) (hl : ls.length = 20 * i) : Ox S0 w0 gl vs mk i 0 (cs i) cs ρ w va ls v where
  b := { h with own := fun j v hj e => h.own j v (by omega) e }
  ox := (h.own i v (Nat.le_refl _) e).1
  al := hc
  rx_ := (h.own i v (Nat.le_refl _) e).2
  ll := hl
  sn := fun t u et hr => by
    have := (List.getElem?_eq_some_iff.1 et).1
    rw [hl] at this
    omega
theorem Ox.below {i q : Nat} {L : List Value} {x : Value} (h : Ox S0 w0 gl vs mk i q L cs ρ w va ls x) (hb : Below w.heap.size w w') : Ox S0 w0 gl vs mk i q L cs (rx ρ w 0) w' va ls x where
  b := h.b.below hb
  ox := h.ox.below hb
  al := h.al
  rx_ := fun k hk => by rw [rx_old (h.ox.lt k hk)]; exact h.rx_ k hk
  ll := h.ll
  sn := h.sn
theorem Ox.pushA {i q : Nat} {L : List Value} {x : Value} (h : Ox S0 w0 gl vs mk i q L cs ρ w va ls x) (hq : q < 20) (hg : Grow w w' va va') (ho : OwnM 1 w' va' (ls.length + 1) (ls ++ [x])) : Ox S0 w0 gl vs mk i (q + 1) L cs (rx ρ w 1) w' va' (ls ++ [x]) x := by
  have hd : ls.length / 20 = i := by rw [h.ll]; omega
  have hw : Wr ρ 1 w w' := Wr.grow hg h.b.ra
  constructor
  case b => exact h.b.pushA hg ho (by rw [hd]; exact own_mkV h.ox h.al) (fun k hk => ⟨h.ox.lt k hk, by rw [hd]; exact h.rx_ k hk⟩)
  case ox => exact h.ox.kept hw.size (fun g hg' => hw.block g (h.ox.lt g hg') (by rw [h.rx_ g hg']; omega))
  case al => exact h.al
  case rx_ => exact fun k hk => by rw [rx_old (h.ox.lt k hk)]; exact h.rx_ k hk
  case ll => rw [List.length_append, h.ll]; rfl
  case sn =>
    intro t u e hr
    rw [List.getElem?_append] at e
    split at e
    · exact h.sn t u e hr
    · obtain ⟨a, c, e1, _, _⟩ := h.ox.shape
      have ht := (List.getElem?_eq_some_iff.1 e).1
      simp at ht
      rw [show t - ls.length = 0 by omega] at e
      obtain rfl : x = u := Option.some.inj e
      exact ⟨a, L.length, c, e1, Nat.le_refl _⟩
theorem Ox.grow {i q : Nat} {L : List Value} {x x' : Value} {y : Value} (h : Ox S0 w0 gl vs mk i q L cs ρ w va ls x) (hg : Grow w w' x x') (hy : mk i y) (ho : OwnM 1 w' x' (L.length + 1) (L ++ [y])) : Ox S0 w0 gl vs mk i q (L ++ [y]) cs (rx ρ w (3 + i)) w' va ls x' := by
  have hw : Wr ρ (3 + i) w w' := Wr.grow hg h.rx_
  have hs := hw.size
  constructor
  case b =>
    constructor
    case kp => exact keep_wr h.b.kp h.b.lo hw (by omega)
    case lo => exact fun k h1 h2 => by rw [rx_old (Nat.lt_of_lt_of_le h1 h.b.kp.size)]; exact h.b.lo k h1 h2
    case gr => exact rangeAt_heap h.b.gr (hw.block gl h.b.lg (by rw [h.b.rg]; omega))
    case rg => rw [rx_old h.b.lg]; exact h.b.rg
    case lg => exact Nat.lt_of_lt_of_le h.b.lg hs
    case own =>
      intro j v hj ej
      obtain ⟨a', b'⟩ := h.b.own j v hj ej
      exact ⟨a'.kept hs (fun g' hg' => hw.block g' (a'.lt g' hg') (by rw [b' g' hg']; omega)), fun k hk => by rw [rx_old (a'.lt k hk)]; exact b' k hk⟩
    case oa => exact h.b.oa.kept hs (fun g' hg' => hw.block g' (h.b.oa.lt g' hg') (by rw [h.b.ra g' hg']; omega))
    case ra => exact fun k hk => by rw [rx_old (h.b.oa.lt k hk)]; exact h.b.ra k hk
    case mrk =>
      intro t u e
      obtain ⟨hM, b⟩ := h.b.mrk t u e
      refine ⟨?_, fun k hk => ⟨Nat.lt_of_lt_of_le (b k hk).1 hs, by rw [rx_old (b k hk).1]; exact (b k hk).2⟩⟩
      by_cases ht : t / 20 = i
      · obtain ⟨a0, m0, c0, e0, hm0⟩ := h.sn t u e ht
        obtain ⟨a, m, c, e1, hm, hc⟩ := hM
        rw [e0] at e1
        injection e1 with e1 e2 e3
        subst e1 e2 e3
        refine ⟨a0, m0, c0, e0, hm, fun j hj => ?_⟩
        obtain ⟨g, ee, ea, h3, h4, h5⟩ := hc j hj
        have keep : w'.heap[g]? = w.heap[g]? → ∃ g' e', a0 = some ⟨g', 0, none⟩ ∧ g' < w'.heap.size ∧ w'.cell? ⟨g', j, none⟩ = some e' ∧ mk (t / 20) e' := fun e' =>
          ⟨g, ee, ea, Nat.lt_of_lt_of_le h3 hs, (World.cell?_of_block (a := ⟨g, j, none⟩) e').trans h4, h5⟩
        by_cases hv : x.ownBlock = some g
        · rcases hg.alt with e4 | ⟨_, e4⟩
          · have hjl : j < (L ++ [y]).length := by rw [List.length_append]; simp; omega
            obtain ⟨g1, c1, f1, f2, f3⟩ := ho.cell (List.getElem?_eq_getElem hjl)
            have hyl : ∀ u ∈ L ++ [y], mk i u := fun u hu => by
              rcases List.mem_append.1 hu with hu | hu
              · exact h.al u hu
              · rw [List.mem_singleton.1 hu]; exact hy
            rw [hv] at e4
            have hg1 : g1 = g := by rw [f1] at e4; injection e4
            subst hg1
            rw [ht]
            exact ⟨_, _, ea, f3, f2, hyl _ (List.getElem_mem hjl)⟩
          · exact keep (e4 g h3)
        · exact keep (hg.old g h3 hv)
      · exact hM.kept hs (fun k hk hl => hw.block k hl (by rw [(b k hk).2]; omega))
  case ox => rw [List.length_append]; exact ho
  case al =>
    intro u hu
    rcases List.mem_append.1 hu with hu | hu
    · exact h.al u hu
    · rw [List.mem_singleton.1 hu]; exact hy
  case rx_ => exact Wr.own hg h.rx_ h.ox.lt
  case ll => exact h.ll
  case sn =>
    intro t u e hr
    obtain ⟨a, m, c, e1, e2⟩ := h.sn t u e hr
    exact ⟨a, m, c, e1, by rw [List.length_append]; omega⟩
end
end Od
end Bat
end Go.Proofs.YtbodgecbakcaaaaGreatDoor

/- Layer 12, the law: owned (written by genBL10.py) -/
namespace Go.Proofs.YtbodgecbakcaaaaGreatDoor
open Go.RowKit Go.Shelf
namespace Bat
namespace Od
def Rw (ρ : Nat → Nat) (w : World) (R : Nat → Nat → Prop) : Prop := ∀ i b, R i b → ρ b = 0 ∧ b < w.heap.size ∧ w.cell? ⟨b, 0, none⟩ = some (sv (mrk i))
def mkR (R : Nat → Nat → Prop) (i : Nat) (u : Value) : Prop := ∃ b, u = .slice (some ⟨b, 0, none⟩) 1 1 ∧ R i b
def addR (R : Nat → Nat → Prop) (i0 b0 : Nat) : Nat → Nat → Prop := fun i b => R i b ∨ (i = i0 ∧ b = b0)
theorem Rw.wr {ρ : Nat → Nat} {w w' : World} {R : Nat → Nat → Prop} {r : Nat} (h : Rw ρ w R) (hw : Wr ρ r w w') (hr : r ≠ 0) (s : Nat) : Rw (rx ρ w s) w' R := fun i b hb => by
  obtain ⟨a, c, d⟩ := h i b hb
  exact ⟨by rw [rx_old c]; exact a, Nat.lt_of_lt_of_le c hw.size, (World.cell?_of_block (a := ⟨b, 0, none⟩) (hw.block b c (by rw [a]; exact fun e => hr e.symm))).trans d⟩
theorem Rw.wrS {ρ : Nat → Nat} {w w' : World} {R : Nat → Nat → Prop} {r : Nat} (h : Rw ρ w R) (hw : Wr ρ r w w') (hr : r ≠ 0) : Rw ρ w' R := fun i b hb => by
  obtain ⟨a, c, d⟩ := h i b hb
  exact ⟨a, Nat.lt_of_lt_of_le c hw.size, (World.cell?_of_block (a := ⟨b, 0, none⟩) (hw.block b c (by rw [a]; exact fun e => hr e.symm))).trans d⟩
theorem Rw.add {ρ : Nat → Nat} {w w1 : World} {R : Nat → Nat → Prop} (h : Rw ρ w R) (hb : Below w.heap.size w w1) (i : Nat) : Rw (rx ρ w 0) (w1.alloc (.cells #[sv (mrk i)] 9)) (addR R i w1.heap.size) := fun j b hj => by
  have ha : Below w1.heap.size w1 (w1.alloc (.cells #[sv (mrk i)] 9)) := (Below.refl _ _).alloc (Nat.le_refl _) _
  rcases hj with hj | ⟨rfl, rfl⟩
  · obtain ⟨a, c, d⟩ := h j b hj
    have c1 := Nat.lt_of_lt_of_le c hb.size
    exact ⟨by rw [rx_old c]; exact a, Nat.lt_of_lt_of_le c1 ha.size, (ha.cell (p := ⟨b, 0, none⟩) c1).trans ((hb.cell (p := ⟨b, 0, none⟩) c).trans d)⟩
  · refine ⟨rx_new hb.size, by rw [size_alloc]; omega, ?_⟩
    rw [cell_of_row _ _ _ _ _ _ (heap_alloc_new w1 _)]
    rfl
theorem mkR_add {R : Nat → Nat → Prop} {i0 b0 i : Nat} {u : Value} (h : mkR R i u) : mkR (addR R i0 b0) i u := by
  obtain ⟨b, e, hr⟩ := h
  exact ⟨b, e, .inl hr⟩
section
variable {S0 : Nat → Prop} {w0 w : World} {gl : Nat} {vs : List Value} {mk mk' : Nat → Value → Prop} {p : Nat} {cs : Nat → List Value} {ρ : Nat → Nat} {va : Value} {ls : List Value}
theorem Ow.mono (h : Ow S0 w0 gl vs mk p cs ρ w va ls) (hm : ∀ i u, mk i u → mk' i u) : Ow S0 w0 gl vs mk' p cs ρ w va ls :=
  ⟨h.kp, h.lo, h.gr, h.rg, h.lg, h.own, h.oa, h.ra, fun t v e => by
    obtain ⟨⟨a, n, c, e1, h1, h2⟩, hr⟩ := h.mrk t v e
    exact ⟨⟨a, n, c, e1, h1, fun j hj => by
      obtain ⟨g, ee, x1, x2, x3, x4⟩ := h2 j hj
      exact ⟨g, ee, x1, x2, x3, hm _ _ x4⟩⟩, hr⟩⟩
theorem Ox.mono {i q : Nat} {L : List Value} {x : Value} (h : Ox S0 w0 gl vs mk i q L cs ρ w va ls x) (hm : ∀ i u, mk i u → mk' i u) : Ox S0 w0 gl vs mk' i q L cs ρ w va ls x :=
  ⟨h.b.mono hm, h.ox, fun u hu => hm _ _ (h.al u hu), h.rx_, h.ll, h.sn⟩
end
theorem infoSs : (Tryz.prog.info? 41).map (fun i => (i.zero, i.size, i.bytes)) = some (some (.slice none 0 0), 1, 24) := by kernel_rfl
theorem append_sss (w : World) (v : Value) (ls : List Value) (a : Option Addr) (n c : Nat) (h : OwnM 1 w v ls.length ls) (hl : ls.length ≤ 1000000) :
    ∃ v' w', (Builtin.append_ #[52, 52] 52 #[v, .slice (some ⟨w.heap.size, 0, none⟩) 1 1]).run Tryz.prog (w.alloc (.cells #[.slice a n c] 41)) = .ok v' w' ∧ OwnM 1 w' v' (ls.length + 1) (ls ++ [.slice a n c]) ∧ Grow w w' v v' :=
  append_oneL 52 41 _ 24 Tryz.underlying52 infoSs rfl w v ls.length ls [.slice a n c] rfl (fun u hu => by
    simp only [List.mem_cons, List.not_mem_nil, or_false] at hu
    subst hu; rfl) h (by omega) (by rw [maxLen]; omega)
def fst (l : List Value) (k : Nat) (P : Value → Prop) : Prop := ∀ t u, t < k → l[t]? = some u → P u
theorem fst_all {l : List Value} {P : Value → Prop} (h : fst l l.length P) : ∀ u ∈ l, P u := fun u hu => by
  obtain ⟨t, ht, rfl⟩ := List.mem_iff_getElem.1 hu
  exact h t _ ht (List.getElem?_eq_getElem ht)
theorem fst_set {l : List Value} {k : Nat} {P : Value → Prop} {u : Value} (h : fst l k P) (hu : P u) : fst (l.set k u) (k + 1) P := fun t v ht hv => by
  rw [List.getElem?_set] at hv
  split at hv
  · next e =>
    split at hv
    · obtain rfl := Option.some.inj hv; exact hu
    · cases hv
  · next e => exact h t v (by omega) hv
set_option maxRecDepth 100000 in
set_option maxHeartbeats 8000000 in
theorem owned12_any (S0 : Nat → Prop) (w : World) (gl N cl : Nat) (vs : List Value) (cs0 : Nat → List Value) (ρ0 : Nat → Nat) (h : Ow S0 w gl vs (mkR fun _ _ => False) 0 cs0 ρ0 w (.slice none 0 0) []) (hN : vs.length = N) (hN2 : N ≤ 100) (hc : ∀ j, (cs0 j).length ≤ 2000) :
    Calls Tryz.prog 30 #[.slice (some ⟨gl, 0, none⟩) N cl] w fun r w' => r = .returned (.bool true) ∧ Keep S0 w w' := by
  have H0 := hid h
  have HN := hid hN
  have HC := hid hc
  have R0 : Hid (Rw ρ0 w fun _ _ => False) := fun i b hb => hb.elim
  clear h hN hc
  go_enter Tryz.func30, Tryz.ntmps30
  go_wp2
  go_loopw [3, 4] (fun i _ w' => ∃ (I : Nat) (cs : Nat → List Value) (ρ : Nat → Nat) (R : Nat → Nat → Prop), I ≤ N ∧ i = .int .i64 (I : Int) ∧ Hid (Ow S0 w gl vs (mkR R) 0 cs ρ w' (.slice none 0 0) []) ∧ Hid (Rw ρ w' R) ∧ Hid (∀ j, (cs j).length = (cs0 j).length) ∧ Hid (∀ j, j < I → ∀ u ∈ cs j, mkR R j u)) (fun i _ _ => N - (intOf i).toNat)
  case atStart => exact ⟨0, cs0, ρ0, _, by omega, rfl, H0, R0, hid (fun _ => rfl), hid (fun j hj => by omega)⟩
  case round =>
    clear H0 R0
    obtain ⟨I, cs, ρ, R, hI, rfl, hO, hR, hL, hF⟩ := hrel
    by_cases hIN : I < N
    · have b0 : (I : Int) < (N : Int) := by omega
      have j0 : (0 : Int) ≤ (I : Int) := by omega
      obtain ⟨v, hv⟩ : ∃ v, vs[I]? = some v := ⟨_, List.getElem?_eq_getElem (by rw [HN.out]; exact hIN)⟩
      have HV := hid hv
      obtain ⟨n, hn⟩ : ∃ n, (cs I).length = n := ⟨_, rfl⟩
      have hn2 : n ≤ 2000 := by rw [← hn, hL.out I]; exact HC.out I
      obtain ⟨a, c, hsh, _, _⟩ := (hO.out.own I v (Nat.zero_le _) hv).1.shape
      rw [hn] at hsh
      subst hsh
      have HNl := hid hn
      clear hn hv
      go_wp2
      go_loopw [4] (fun k w' => ∃ (K : Nat) (cs' : Nat → List Value) (ρ' : Nat → Nat) (R' : Nat → Nat → Prop), K ≤ n ∧ k = .int .i64 (K : Int) ∧ Hid (Ow S0 w gl vs (mkR R') 0 cs' ρ' w' (.slice none 0 0) []) ∧ Hid (Rw ρ' w' R') ∧ Hid (∀ j, (cs' j).length = (cs0 j).length) ∧ Hid (∀ j, j < I → ∀ u ∈ cs' j, mkR R' j u) ∧ Hid (fst (cs' I) K (mkR R' I)) ∧ Hid ((cs' I).length = n)) (fun k _ => n - (intOf k).toNat)
      case atStart => exact ⟨0, cs, ρ, R, by omega, rfl, hO, hR, hL, hF, hid (fun t u ht => by omega), HNl⟩
      case round =>
        clear hO hR hL hF HNl
        obtain ⟨K, cs', ρ', R', hK, rfl, hO, hR, hL, hF, hP, hnl⟩ := hrel
        have c0 := hO.out.gr I _ HV.out
        rw [Nat.zero_add] at c0
        have l0 := hO.out.lg
        by_cases hKn : K < n
        · have b1 : (K : Int) < (n : Int) := by omega
          have k0 : (0 : Int) ≤ (K : Int) := by omega
          obtain ⟨g, cg, eg, _⟩ := (hO.out.own I _ (Nat.zero_le _) HV.out).1.cell (List.getElem?_eq_getElem (show K < (cs' I).length by rw [hnl.out]; exact hKn))
          rw [hnl.out] at eg
          injection eg with e1 e2 e3
          subst e1
          subst e3
          have iM : ∀ w' : World, Calls Tryz.prog 46 #[.int .i64 (I : Int)] w' fun e w'' => e = .returned (.string ⟨(mrk I).toArray⟩) ∧ Below w'.heap.size w' w'' := fun w' => mark_at I (by omega) w'
          have HO := hid hO.out
          have MK : Hid (∀ w2, Below wr.heap.size wr w2 → (∃ y, (w2.alloc (.cells #[.string ⟨(mrk I).toArray⟩] 9)).cell? ⟨g, K, none⟩ = some y) ∧ (w2.alloc (.cells #[.string ⟨(mrk I).toArray⟩] 9)).frozen? ⟨g, K, none⟩ = false ∧ w2.cell? ⟨gl, I, none⟩ = some (.slice (some ⟨g, 0, none⟩) n c) ∧ (w2.alloc (.cells #[.string ⟨(mrk I).toArray⟩] 9)).cell? ⟨gl, I, none⟩ = some (.slice (some ⟨g, 0, none⟩) n c) ∧ ((w2.alloc (.cells #[.string ⟨(mrk I).toArray⟩] 9)).setCell ⟨g, K, none⟩ (.slice (some ⟨w2.heap.size, 0, none⟩) 1 1)).cell? ⟨gl, I, none⟩ = some (.slice (some ⟨g, 0, none⟩) n c)) := fun w2 hb => by
            have ha : Below w2.heap.size w2 (w2.alloc (.cells #[sv (mrk I)] 9)) := (Below.refl _ _).alloc (Nat.le_refl _) _
            have hb2 := hb.trans (ha.mono hb.size)
            have O2 := hO.out.below hb2
            obtain ⟨_, x2, x3⟩ := O2.set (Nat.zero_le _) HV.out (by rw [hnl.out]; exact hKn) (.int .i64 0)
            obtain ⟨O3, _, _⟩ := O2.set (Nat.zero_le _) HV.out (by rw [hnl.out]; exact hKn) (.slice (some ⟨w2.heap.size, 0, none⟩) 1 1)
            have g3 := O3.gr I _ HV.out
            rw [Nat.zero_add] at g3
            exact ⟨x2, x3, (hb.cell (p := ⟨gl, I, none⟩) l0).trans c0, (hb2.cell (p := ⟨gl, I, none⟩) l0).trans c0, g3⟩
          have NX : Hid (∀ w2, Below wr.heap.size wr w2 → ∃ (cs2 : Nat → List Value) (ρ2 : Nat → Nat) (R2 : Nat → Nat → Prop), Ow S0 w gl vs (mkR R2) 0 cs2 ρ2 ((w2.alloc (.cells #[.string ⟨(mrk I).toArray⟩] 9)).setCell ⟨g, K, none⟩ (.slice (some ⟨w2.heap.size, 0, none⟩) 1 1)) (.slice none 0 0) [] ∧ Rw ρ2 ((w2.alloc (.cells #[.string ⟨(mrk I).toArray⟩] 9)).setCell ⟨g, K, none⟩ (.slice (some ⟨w2.heap.size, 0, none⟩) 1 1)) R2 ∧ (∀ j, (cs2 j).length = (cs0 j).length) ∧ (∀ j, j < I → ∀ u ∈ cs2 j, mkR R2 j u) ∧ fst (cs2 I) (K + 1) (mkR R2 I) ∧ (cs2 I).length = n) := fun w2 hb => by
            have ha : Below w2.heap.size w2 (w2.alloc (.cells #[sv (mrk I)] 9)) := (Below.refl _ _).alloc (Nat.le_refl _) _
            have hb2 := hb.trans (ha.mono hb.size)
            have O2 := (hO.out.below hb2).mono (mk' := mkR (addR R' I w2.heap.size)) (fun i u hu => mkR_add hu)
            have R2 := hR.out.add hb I
            have rg := ((hO.out.below hb2).own I _ (Nat.zero_le _) HV.out).2 g rfl
            obtain ⟨O3, _, _⟩ := O2.set (Nat.zero_le _) HV.out (by rw [hnl.out]; exact hKn) (.slice (some ⟨w2.heap.size, 0, none⟩) 1 1)
            have hw : Wr (rx ρ' wr 0) (3 + I) (w2.alloc (.cells #[sv (mrk I)] 9)) ((w2.alloc (.cells #[sv (mrk I)] 9)).setCell ⟨g, K, none⟩ (.slice (some ⟨w2.heap.size, 0, none⟩) 1 1)) := (Wr.refl _ _ _).setCell (fun _ => rg) _ _
            refine ⟨_, _, addR R' I w2.heap.size, O3, R2.wrS hw (by omega), fun j => ?_, fun j hj => ?_, ?_, ?_⟩
            · by_cases e : j = I
              · rw [if_pos e, List.length_set, e]; exact hL.out I
              · rw [if_neg e]; exact hL.out j
            · rw [if_neg (by omega)]; exact fun u hu => mkR_add (hF.out j hj u hu)
            · rw [if_pos rfl]; exact fst_set (fun t u ht hu => mkR_add (hP.out t u ht hu)) ⟨_, rfl, .inr ⟨rfl, rfl⟩⟩
            · rw [if_pos rfl, List.length_set]; exact hnl.out
          have X0 := c0
          clear hO hR hL hF hP HO c0
          go_wp2
          go_region_held3 (fun W => W.cell? ⟨gl, I, none⟩ = some (.slice (some ⟨g, 0, none⟩) n c)) (first | exact X0 | exact m3 | exact m4 | exact m5) (first | (go_at_call 46; (with_reducible refine (iM _).mono ?_); rintro e w2 ⟨rfl, hw2⟩; have hB2 := hid ((Below.refl wr.heap.size wr).drew.trans (hw2.mono (Nat.le_refl _))); obtain ⟨⟨y2, m1⟩, m2, m3, m4, m5⟩ := MK.out w2 hB2.out; clear hw2))
          obtain ⟨cs2, ρ2, R2, N1, N2, N3, N4, N5, N6⟩ := NX.out w2 hB2.out
          have N1 := hid N1
          have N2 := hid N2
          have N3 := hid N3
          have N4 := hid N4
          have N5 := hid N5
          have N6 := hid N6
          clear m1 m2 m3 m4 m5 X0 MK NX
          go_wp2
          exact ⟨⟨K + 1, cs2, ρ2, R2, by omega, by go_num, N1, N2, N3, N4, N5, N6⟩, by simp [intOf]; omega⟩
        · obtain rfl : K = n := by omega
          have b1 : ¬ (K : Int) < (K : Int) := by omega
          go_wp2
          refine ⟨⟨I + 1, cs', ρ', R', by omega, by go_num, hO, hR, hL, hid (fun j hj => ?_)⟩, by simp [intOf]; omega⟩
          by_cases e : j = I
          · rw [e]; exact fst_all (by rw [hnl.out]; exact hP.out)
          · exact hF.out j (by omega)
    · obtain rfl : I = N := by omega
      have b0 : ¬ (I : Int) < (I : Int) := by omega
      go_wp2
      go_loopw [5, 6, 7, 8] (fun va i _ _ w' => ∃ (J : Nat) (ρ' : Nat → Nat) (R' : Nat → Nat → Prop) (ls : List Value), J ≤ I ∧ i = .int .i64 (J : Int) ∧ ls.length = 20 * J ∧ Hid (Ow S0 w gl vs (mkR R') J cs ρ' w' va ls) ∧ Hid (Rw ρ' w' R') ∧ Hid (∀ j, j < I → ∀ u ∈ cs j, mkR R' j u)) (fun _ i _ _ _ => I - (intOf i).toNat)
      case atStart => exact ⟨0, ρ, R, [], by omega, rfl, rfl, hO, hR, hF⟩
      case round =>
        clear hO hR hF
        obtain ⟨J, ρ2, R2, ls, hJ, rfl, hll, hO, hR, hF⟩ := hrel
        by_cases hJI : J < I
        · have b1 : (J : Int) < (I : Int) := by omega
          have j1 : (0 : Int) ≤ (J : Int) := by omega
          obtain ⟨v, hv⟩ : ∃ v, vs[J]? = some v := ⟨_, List.getElem?_eq_getElem (by rw [HN.out]; exact hJI)⟩
          have c0 := hO.out.gr J _ hv
          rw [Nat.zero_add] at c0
          have X0 := hid (hO.out.take hv (hF.out J hJI) hll)
          obtain ⟨n, hn⟩ : ∃ n, (cs J).length = n := ⟨_, rfl⟩
          have hn2 : (cs J).length ≤ 2000 := by rw [hL.out J]; exact HC.out J
          clear hO hv
          go_wp2
          go_loopw [5, 7, 8] (fun va x k w' => ∃ (q : Nat) (L : List Value) (ρ' : Nat → Nat) (R' : Nat → Nat → Prop) (ls : List Value), q ≤ 20 ∧ k = .int .i64 (q : Int) ∧ L.length ≤ 2000 + q ∧ Hid (Ox S0 w gl vs (mkR R') J q L cs ρ' w' va ls x) ∧ Hid (Rw ρ' w' R') ∧ Hid (∀ j, j < I → ∀ u ∈ cs j, mkR R' j u)) (fun _ _ k _ => 20 - (intOf k).toNat)
          case atStart => exact ⟨0, cs J, ρ2, R2, ls, by omega, rfl, by omega, X0, hR, hF⟩
          case round =>
            clear X0 hR hF
            obtain ⟨q, L, ρ3, R3, ls3, hq, rfl, hm, hX, hR, hF⟩ := hrel
            by_cases hq40 : q < 20
            · have b2 : (q : Int) < 20 := by omega
              obtain ⟨xa, xc, hxe, _, _⟩ := hX.out.ox.shape
              subst hxe
              obtain ⟨va1, w1, hap1, o1, g1⟩ := append_sss wr _ ls3 xa L.length xc hX.out.b.oa (by rw [hX.out.ll]; omega)
              have X1 := hid (hX.out.pushA hq40 g1 o1)
              have R1 := hid (hR.out.wr (Wr.grow g1 hX.out.b.ra) (by omega) 1)
              have iM : ∀ w' : World, Calls Tryz.prog 46 #[.int .i64 (J : Int)] w' fun e w'' => e = .returned (.string ⟨(mrk J).toArray⟩) ∧ Below w'.heap.size w' w'' := fun w' => mark_at J (by omega) w'
              obtain ⟨ln, hln⟩ : ∃ n, L.length = n := ⟨_, rfl⟩
              rw [hln] at hap1
              have HLN := hid hln
              have hm2 := hid hm
              rw [hln]
              clear hX hR o1 g1 hln hm
              go_wp2_with (first
                | (at_builtin; refine Lib.wpList_append_run _ rfl _ _ 52 52 rfl _ _ rfl rfl _ _ hap1 ?_; clear hap1)
                | (go_at_call 46; fail))
              refine (iM w1).mono ?_
              rintro e w2 ⟨rfl, hb2⟩
              have ha : Below w2.heap.size w2 (w2.alloc (.cells #[.string ⟨(mrk J).toArray⟩] 9)) := (Below.refl _ _).alloc (Nat.le_refl _) _
              have X2 := (X1.out.below (hb2.trans (ha.mono hb2.size))).mono (mk' := mkR (addR R3 J w2.heap.size)) (fun i u hu => mkR_add hu)
              have R2 : Rw _ (w2.alloc (.cells #[.string ⟨(mrk J).toArray⟩] 9)) (addR R3 J w2.heap.size) := R1.out.add hb2 J
              obtain ⟨x3, w3, hap3, o3, g3⟩ := append_l12 (w2.alloc (.cells #[.string ⟨(mrk J).toArray⟩] 9)) (.slice xa L.length xc) L (some ⟨w2.heap.size, 0, none⟩) 1 1 X2.ox (by have := hm2.out; omega)
              have X4 := hid (X2.grow g3 ⟨_, rfl, .inr ⟨rfl, rfl⟩⟩ o3)
              have R4 := hid (R2.wr (Wr.grow g3 X2.rx_) (by omega) (3 + J))
              have F4 : Hid (∀ j, j < I → ∀ u ∈ cs j, mkR (addR R3 J w2.heap.size) j u) := fun j hj u hu => mkR_add (hF.out j hj u hu)
              have L4 : Hid ((L ++ [Value.slice (some ⟨w2.heap.size, 0, none⟩) 1 1]).length ≤ 2000 + (q + 1)) := by
                show (L ++ [Value.slice (some ⟨w2.heap.size, 0, none⟩) 1 1]).length ≤ 2000 + (q + 1)
                have := hm2.out
                rw [List.length_append]
                simp
                omega
              rw [HLN.out, size_alloc] at hap3
              clear X1 R1 X2 R2 o3 g3 hF ha hb2
              go_wp2_with (at_builtin; go_must (refine Lib.wpList_append_run _ rfl _ _ 41 41 rfl _ _ rfl rfl _ _ hap3 ?_))
              exact ⟨⟨q + 1, L ++ [Value.slice (some ⟨w2.heap.size, 0, none⟩) 1 1], _, _, _, by omega, by go_num, L4.out, X4, R4, F4⟩, by simp [intOf]; omega⟩
            · obtain rfl : q = 20 := by omega
              have b2 : ¬ (20 : Int) < 20 := by omega
              have hX1 := hid hX.out.b
              have hl2 := hX.out.ll
              go_wp2
              exact ⟨⟨J + 1, ρ3, R3, ls3, by omega, by go_num, by omega, hX1, hR, hF⟩, by simp [intOf]; omega⟩
        · obtain rfl : J = I := by omega
          have b1 : ¬ (J : Int) < (J : Int) := by omega
          obtain ⟨Z, hZ⟩ : ∃ Z, 20 * J = Z := ⟨_, rfl⟩
          rw [hZ] at hll
          have hZ2 : Z ≤ 2000 := by omega
          obtain ⟨wE, hwE⟩ : ∃ wE, wr = wE := ⟨_, rfl⟩
          rw [hwE] at hO hR ⊢
          clear hwE
          obtain ⟨aa, ca, hae, _, _⟩ := hO.out.oa.shape
          subst hae
          have hcA := hid (fun (T : Nat) (u : Value) (e : ls[T]? = some u) => hO.out.oa.cell e)
          have hMk := hid (fun (T : Nat) (u : Value) (e : ls[T]? = some u) => (hO.out.mrk T u e).1)
          have HK := hid hO.out.kp
          have HL2 := hid hll
          rw [hll]
          clear hO
          go_wp2
          go_loopw [9, 10] (fun i _ w' => ∃ T : Nat, T ≤ Z ∧ i = .int .i64 (T : Int) ∧ Hid (Below wE.heap.size wE w')) (fun i _ _ => Z - (intOf i).toNat)
          case atStart => exact ⟨0, by omega, rfl, Below.refl _ _⟩
          case round =>
            obtain ⟨T, hT, rfl, hB⟩ := hrel
            by_cases hTZ : T < Z
            · have b2 : (T : Int) < (Z : Int) := by omega
              have t0 : (0 : Int) ≤ (T : Int) := by omega
              obtain ⟨u, hu⟩ : ∃ u, ls[T]? = some u := ⟨_, List.getElem?_eq_getElem (by rw [HL2.out]; exact hTZ)⟩
              obtain ⟨ga, ca', e1, d1, la⟩ := hcA.out T u hu
              injection e1 with e1 _ _
              subst e1
              obtain ⟨a, n, cc, rfl, hn, hM⟩ := hMk.out T u hu
              have HM := hid hM
              obtain ⟨o, ho⟩ : ∃ o, T / 20 = o := ⟨_, rfl⟩
              have ho2 : o ≤ 255 := by omega
              rw [ho] at HM
              have hqo : (T : Int) / 20 = (o : Int) := by omega
              have dr := (hB.out.cell (p := ⟨ga, T, none⟩) la).trans d1
              clear hM hu ho
              go_wp2
              go_loopw [10] (fun k w' => ∃ K : Nat, K ≤ n ∧ k = .int .i64 (K : Int) ∧ Hid (Below wE.heap.size wE w')) (fun k _ => n - (intOf k).toNat)
              case atStart => exact ⟨0, by omega, rfl, hB⟩
              case round =>
                clear dr hB
                obtain ⟨K, hK, rfl, hB⟩ := hrel
                have c1 := (hB.out.cell (p := ⟨ga, T, none⟩) la).trans d1
                by_cases hKn : K < n
                · have b3 : (K : Int) < (n : Int) := by omega
                  have k0 : (0 : Int) ≤ (K : Int) := by omega
                  obtain ⟨g, ee, hga, gl', c3', bb, rfl, hRb⟩ := HM.out K hKn
                  subst hga
                  obtain ⟨_, lb, cb⟩ := hR.out o bb hRb
                  have c3 := (hB.out.cell (p := ⟨g, K, none⟩) gl').trans c3'
                  have c5 := (hB.out.cell (p := ⟨bb, 0, none⟩) lb).trans cb
                  rw [show sv (mrk o) = Value.string ⟨(mrk o).toArray⟩ from rfl] at c5
                  have iM : ∀ w' : World, Calls Tryz.prog 46 #[.int .i64 (o : Int)] w' fun e w'' => e = .returned (.string ⟨(mrk o).toArray⟩) ∧ Below w'.heap.size w' w'' := fun w' => mark_at o ho2 w'
                  generalize (ByteArray.mk (mrk o).toArray) = MT at *
                  have hne : (MT.toList != MT.toList) = false := by simp
                  have n1 : ((1 : Int) != 1) = false := rfl
                  have hwo : IntKind.i64.wrap (o : Int) = (o : Int) := by rw [IntKind.wrap_i64]; omega
                  have HBs := hB.out.size
                  have MKX : Hid (∀ w', Below wr.heap.size wr w' → w'.cell? ⟨ga, T, none⟩ = some (.slice (some ⟨g, 0, none⟩) n cc) ∧ w'.cell? ⟨g, K, none⟩ = some (.slice (some ⟨bb, 0, none⟩) 1 1) ∧ w'.cell? ⟨bb, 0, none⟩ = some (.string MT)) := fun w' hb => ⟨(hb.cell (p := ⟨ga, T, none⟩) (Nat.lt_of_lt_of_le la HBs)).trans c1, (hb.cell (p := ⟨g, K, none⟩) (Nat.lt_of_lt_of_le gl' HBs)).trans c3, (hb.cell (p := ⟨bb, 0, none⟩) (Nat.lt_of_lt_of_le lb HBs)).trans c5⟩
                  have X0 := MKX.out wr (Below.refl _ _)
                  clear c3' cb HBs hRb
                  go_wp2
                  go_region_held3 (fun W => W.cell? ⟨ga, T, none⟩ = some (.slice (some ⟨g, 0, none⟩) n cc) ∧ W.cell? ⟨g, K, none⟩ = some (.slice (some ⟨bb, 0, none⟩) 1 1) ∧ W.cell? ⟨bb, 0, none⟩ = some (.string MT)) (first | exact X0 | exact X5) (first | (go_at_call 46; (with_reducible refine (iM _).mono ?_); rintro e w2 ⟨rfl, hw2⟩; have hB2 := hid ((Below.refl wr.heap.size wr).drew.trans (hw2.mono (Nat.le_refl _))); have X5 := MKX.out w2 hB2.out; clear hw2))
                  go_wp2
                  exact ⟨⟨K + 1, by omega, by go_num, hid (hB.out.trans (hB2.out.mono hB.out.size))⟩, by simp [intOf]; omega⟩
                · obtain rfl : K = n := by omega
                  have b3 : ¬ (K : Int) < (K : Int) := by omega
                  go_wp2
                  first
                    | exact ⟨⟨T + 1, by omega, by go_num, hB⟩, by simp [intOf]; omega⟩
                    | exact ⟨⟨T + 1, by omega, by omega⟩, by simp [intOf]; omega⟩
            · obtain rfl : T = Z := by omega
              have b2 : ¬ (T : Int) < (T : Int) := by omega
              go_wp2
              go_ret
              exact ⟨rfl, In.keep_belowI HK.out hB.out⟩
end Od
end Bat
end Go.Proofs.YtbodgecbakcaaaaGreatDoor
