import Derived.Test.YtkiibcfjjplkaaaDoorCSK0
namespace Go.Proofs.YtkiibcfjjplkaaaDoor
open Go.RowKit Go.Shelf
/-- a list that reads as marks, one cell each -/
def MkV (w : World) (v u : Value) : Prop := ∃ a n c, v = .slice a n c ∧ n ≤ 9223372036854775807 ∧ ∀ j, j < n → ∃ g, a = some ⟨g, 0, none⟩ ∧ g < w.heap.size ∧ w.cell? ⟨g, j, none⟩ = some u
theorem MkV.kept {w w' : World} {v u : Value} (h : MkV w v u) (hs : w.heap.size ≤ w'.heap.size) (hb : ∀ k, v.ownBlock = some k → k < w.heap.size → w'.heap[k]? = w.heap[k]?) : MkV w' v u := by
  obtain ⟨a, n, c, rfl, h1, h2⟩ := h
  refine ⟨a, n, c, rfl, h1, fun j hj => ?_⟩
  obtain ⟨g, rfl, h3, h4⟩ := h2 j hj
  exact ⟨g, rfl, by omega, (World.cell?_of_block (a := ⟨g, j, none⟩) (hb g rfl h3)).trans h4⟩
theorem OwnM.mkV {w : World} {v : Value} {n : Nat} {u : Value} (h : OwnM 1 w v n (List.replicate n u)) : MkV w v u := by
  obtain ⟨a, c, e, h1, h2⟩ := h.shape
  refine ⟨a, n, c, e, by omega, fun j hj => ?_⟩
  obtain ⟨g, c', e1, h3, h4⟩ := h.cell (show (List.replicate n u)[j]? = some u by rw [List.getElem?_replicate, if_pos hj])
  rw [e1] at e
  injection e with e3
  exact ⟨g, e3.symm, h4, h3⟩
/-- whose the t-th list is: forty of each -/
def whs (n : Nat) : List Value := (List.range n).map fun t => .int .i64 ((t / 40 : Nat) : Int)
theorem whs_len (n : Nat) : (whs n).length = n := by simp [whs]
theorem whs_succ (n : Nat) : whs (n + 1) = whs n ++ [.int .i64 ((n / 40 : Nat) : Int)] := by simp [whs, List.range_succ]
theorem whs_at {n t : Nat} (h : t < n) : (whs n)[t]? = some (.int .i64 ((t / 40 : Nat) : Int)) := by simp [whs, h]
/-- lists that came out (vs, kept in the row gl), while they are written over and grown: roles 0 never written, 1 the list of all, 2 whose, 3 + j the j-th list -/
structure Ow (S0 : Nat → Prop) (w0 : World) (gl : Nat) (vs : List Value) (mk : Nat → Value) (p : Nat) (cs : Nat → List Value) (ρ : Nat → Nat) (w : World) (va : Value) (ls : List Value) (vw : Value) (lw : Nat) : Prop where
  kp : Keep S0 w0 w
  lo : ∀ k, k < w0.heap.size → ¬ S0 k → ρ k = 0
  gr : w.rangeAt gl 0 vs
  rg : ρ gl = 0
  lg : gl < w.heap.size
  own : ∀ (j : Nat) (v : Value), p ≤ j → vs[j]? = some v → OwnM 1 w v (cs j).length (cs j) ∧ ∀ k, v.ownBlock = some k → ρ k = 3 + j
  oa : OwnM 1 w va ls.length ls
  ra : ∀ k, va.ownBlock = some k → ρ k = 1
  ow : OwnM 1 w vw lw (whs lw)
  rw_ : ∀ k, vw.ownBlock = some k → ρ k = 2
  mrk : ∀ (t : Nat) (v : Value), ls[t]? = some v → MkV w v (mk (t / 40)) ∧ ∀ k, v.ownBlock = some k → k < w.heap.size ∧ ρ k = 3 + t / 40
section
variable {S0 : Nat → Prop} {w0 w w' : World} {gl : Nat} {vs : List Value} {mk : Nat → Value} {p : Nat} {cs : Nat → List Value} {ρ : Nat → Nat} {va vw va' vw' : Value} {ls : List Value} {lw r : Nat}
theorem keep_wr (hk : Keep S0 w0 w) (lo : ∀ k, k < w0.heap.size → ¬ S0 k → ρ k = 0) (hw : Wr ρ r w w') (h0 : r ≠ 0) : Keep S0 w0 w' :=
  ⟨hw.os.trans hk.os, hw.tape.trans hk.tape, hw.output.trans hk.output, Nat.le_trans hk.size hw.size, fun k h1 h2 => (hw.block k (Nat.lt_of_lt_of_le h1 hk.size) (by rw [lo k h1 h2]; exact fun e => h0 e.symm)).trans (hk.block k h1 h2)⟩
theorem Ow.below (h : Ow S0 w0 gl vs mk p cs ρ w va ls vw lw) (hb : Below w.heap.size w w') : Ow S0 w0 gl vs mk p cs (rx ρ w 0) w' va ls vw lw where
  kp := keep_wr (r := 1) h.kp h.lo (Wr.below hb) (by omega)
  lo := fun k h1 h2 => by rw [rx_old (Nat.lt_of_lt_of_le h1 h.kp.size)]; exact h.lo k h1 h2
  gr := rangeAt_heap h.gr (hb.block gl h.lg)
  rg := by rw [rx_old h.lg]; exact h.rg
  lg := Nat.lt_of_lt_of_le h.lg hb.size
  own := fun j v hj e => by
    obtain ⟨a, b⟩ := h.own j v hj e
    exact ⟨a.below hb, fun k hk => by rw [rx_old (a.lt k hk)]; exact b k hk⟩
  oa := h.oa.below hb
  ra := fun k hk => by rw [rx_old (h.oa.lt k hk)]; exact h.ra k hk
  ow := h.ow.below hb
  rw_ := fun k hk => by rw [rx_old (h.ow.lt k hk)]; exact h.rw_ k hk
  mrk := fun t v e => by
    obtain ⟨a, b⟩ := h.mrk t v e
    exact ⟨a.kept hb.size (fun k _ hl => hb.block k hl), fun k hk => ⟨Nat.lt_of_lt_of_le (b k hk).1 hb.size, by rw [rx_old (b k hk).1]; exact (b k hk).2⟩⟩
/-- one cell of the i-th list is written, while none is gathered yet -/
theorem Ow.set {i g n c k : Nat} (h : Ow S0 w0 gl vs mk p cs ρ w va [] vw lw) (hp : p ≤ i) (e : vs[i]? = some (.slice (some ⟨g, 0, none⟩) n c)) (hk : k < (cs i).length) (u : Value) :
    Ow S0 w0 gl vs mk p (fun j => if j = i then (cs i).set k u else cs j) ρ (w.setCell ⟨g, k, none⟩ u) va [] vw lw ∧ (∃ y, w.cell? ⟨g, k, none⟩ = some y) ∧ w.frozen? ⟨g, k, none⟩ = false := by
  obtain ⟨a, b⟩ := h.own i _ hp e
  have hn : (cs i).length = n := by
    obtain ⟨a1, c1, e1, _, _⟩ := a.shape
    injection e1 with _ e2 _
    exact e2.symm
  rw [hn] at a
  obtain ⟨o1, o2, o3⟩ := a.set hk u
  have rg := b g rfl
  have hw : Wr ρ (3 + i) w (w.setCell ⟨g, k, none⟩ u) := (Wr.refl ρ (3 + i) w).setCell (fun _ => rg) _ _
  have hs : w.heap.size ≤ (w.setCell ⟨g, k, none⟩ u).heap.size := hw.size
  refine ⟨?_, o2, o3⟩
  constructor
  case kp => exact keep_wr h.kp h.lo hw (by omega)
  case lo => exact h.lo
  case gr => exact rangeAt_heap h.gr (hw.block gl h.lg (by rw [h.rg]; omega))
  case rg => exact h.rg
  case lg => exact Nat.lt_of_lt_of_le h.lg hs
  case own =>
    intro j v hj ej
    by_cases hji : j = i
    · subst hji
      obtain rfl : Value.slice (some ⟨g, 0, none⟩) n c = v := Option.some.inj (e.symm.trans ej)
      rw [if_pos rfl, List.length_set, hn]
      exact ⟨o1, b⟩
    · rw [if_neg hji]
      obtain ⟨a', b'⟩ := h.own j v hj ej
      exact ⟨a'.kept hs (fun g' hg' => hw.block g' (a'.lt g' hg') (by rw [b' g' hg']; omega)), b'⟩
  case oa => exact h.oa.kept hs (fun g' hg' => hw.block g' (h.oa.lt g' hg') (by rw [h.ra g' hg']; omega))
  case ra => exact h.ra
  case ow => exact h.ow.kept hs (fun g' hg' => hw.block g' (h.ow.lt g' hg') (by rw [h.rw_ g' hg']; omega))
  case rw_ => exact h.rw_
  case mrk => exact fun t v e => by cases e
/-- a list is put to all -/
theorem Ow.pushA {x : Value} (h : Ow S0 w0 gl vs mk p cs ρ w va ls vw lw) (hg : Grow w w' va va') (ho : OwnM 1 w' va' (ls.length + 1) (ls ++ [x])) (hx : MkV w x (mk (ls.length / 40))) (hr : ∀ k, x.ownBlock = some k → k < w.heap.size ∧ ρ k = 3 + ls.length / 40) :
    Ow S0 w0 gl vs mk p cs (rx ρ w 1) w' va' (ls ++ [x]) vw lw := by
  have hw : Wr ρ 1 w w' := Wr.grow hg h.ra
  have hs := hw.size
  constructor
  case kp => exact keep_wr h.kp h.lo hw (by omega)
  case lo => exact fun k h1 h2 => by rw [rx_old (Nat.lt_of_lt_of_le h1 h.kp.size)]; exact h.lo k h1 h2
  case gr => exact rangeAt_heap h.gr (hw.block gl h.lg (by rw [h.rg]; omega))
  case rg => rw [rx_old h.lg]; exact h.rg
  case lg => exact Nat.lt_of_lt_of_le h.lg hs
  case own =>
    intro j v hj ej
    obtain ⟨a', b'⟩ := h.own j v hj ej
    exact ⟨a'.kept hs (fun g' hg' => hw.block g' (a'.lt g' hg') (by rw [b' g' hg']; omega)), fun k hk => by rw [rx_old (a'.lt k hk)]; exact b' k hk⟩
  case oa => rw [List.length_append]; exact ho
  case ra => exact Wr.own hg h.ra h.oa.lt
  case ow => exact h.ow.kept hs (fun g' hg' => hw.block g' (h.ow.lt g' hg') (by rw [h.rw_ g' hg']; omega))
  case rw_ => exact fun k hk => by rw [rx_old (h.ow.lt k hk)]; exact h.rw_ k hk
  case mrk =>
    intro t v e
    rw [List.getElem?_append] at e
    split at e
    · obtain ⟨a, b⟩ := h.mrk t v e
      exact ⟨a.kept hs (fun k hk hl => hw.block k hl (by rw [(b k hk).2]; omega)), fun k hk => ⟨Nat.lt_of_lt_of_le (b k hk).1 hs, by rw [rx_old (b k hk).1]; exact (b k hk).2⟩⟩
    · next hj =>
      have ht := (List.getElem?_eq_some_iff.1 e).1
      simp at ht
      obtain rfl : t = ls.length := by omega
      rw [Nat.sub_self] at e
      obtain rfl : x = v := Option.some.inj e
      exact ⟨hx.kept hs (fun k hk hl => hw.block k hl (by rw [(hr k hk).2]; omega)), fun k hk => ⟨Nat.lt_of_lt_of_le (hr k hk).1 hs, by rw [rx_old (hr k hk).1]; exact (hr k hk).2⟩⟩
/-- a number is put to whose -/
theorem Ow.pushW (h : Ow S0 w0 gl vs mk p cs ρ w va ls vw lw) (hg : Grow w w' vw vw') (ho : OwnM 1 w' vw' (lw + 1) (whs (lw + 1))) :
    Ow S0 w0 gl vs mk p cs (rx ρ w 2) w' va ls vw' (lw + 1) := by
  have hw : Wr ρ 2 w w' := Wr.grow hg h.rw_
  have hs := hw.size
  constructor
  case kp => exact keep_wr h.kp h.lo hw (by omega)
  case lo => exact fun k h1 h2 => by rw [rx_old (Nat.lt_of_lt_of_le h1 h.kp.size)]; exact h.lo k h1 h2
  case gr => exact rangeAt_heap h.gr (hw.block gl h.lg (by rw [h.rg]; omega))
  case rg => rw [rx_old h.lg]; exact h.rg
  case lg => exact Nat.lt_of_lt_of_le h.lg hs
  case own =>
    intro j v hj ej
    obtain ⟨a', b'⟩ := h.own j v hj ej
    exact ⟨a'.kept hs (fun g' hg' => hw.block g' (a'.lt g' hg') (by rw [b' g' hg']; omega)), fun k hk => by rw [rx_old (a'.lt k hk)]; exact b' k hk⟩
  case oa => exact h.oa.kept hs (fun g' hg' => hw.block g' (h.oa.lt g' hg') (by rw [h.ra g' hg']; omega))
  case ra => exact fun k hk => by rw [rx_old (h.oa.lt k hk)]; exact h.ra k hk
  case ow => exact ho
  case rw_ => exact Wr.own hg h.rw_ h.ow.lt
  case mrk =>
    intro t v e
    obtain ⟨a, b⟩ := h.mrk t v e
    exact ⟨a.kept hs (fun k hk hl => hw.block k hl (by rw [(b k hk).2]; omega)), fun k hk => ⟨Nat.lt_of_lt_of_le (b k hk).1 hs, by rw [rx_old (b k hk).1]; exact (b k hk).2⟩⟩
/-- the i-th list is being grown: it has n marks now, q of its beginnings are in all -/
structure Ox (S0 : Nat → Prop) (w0 : World) (gl : Nat) (vs : List Value) (mk : Nat → Value) (i q n : Nat) (cs : Nat → List Value) (ρ : Nat → Nat) (w : World) (va : Value) (ls : List Value) (vw : Value) (lw : Nat) (x : Value) : Prop where
  b : Ow S0 w0 gl vs mk (i + 1) cs ρ w va ls vw lw
  ox : OwnM 1 w x n (List.replicate n (mk i))
  rx_ : ∀ k, x.ownBlock = some k → ρ k = 3 + i
  ll : ls.length = 40 * i + q
  sn : ∀ (t : Nat) (u : Value), ls[t]? = some u → t / 40 = i → ∃ a m c, u = .slice a m c ∧ m ≤ n
theorem Ow.take {i : Nat} {v : Value} (h : Ow S0 w0 gl vs mk i cs ρ w va ls vw lw) (e : vs[i]? = some v) (hc : cs i = List.replicate (cs i).length (mk i)) (hl : ls.length = 40 * i) : Ox S0 w0 gl vs mk i 0 (cs i).length cs ρ w va ls vw lw v where
  b := { h with own := fun j v hj e => h.own j v (by omega) e }
  ox := by have := (h.own i v (Nat.le_refl _) e).1; rwa [hc, List.length_replicate] at this
  rx_ := (h.own i v (Nat.le_refl _) e).2
  ll := hl
  sn := fun t u et hr => by
    have := (List.getElem?_eq_some_iff.1 et).1
    rw [hl] at this
    omega
theorem Ox.below {i q n : Nat} {x : Value} (h : Ox S0 w0 gl vs mk i q n cs ρ w va ls vw lw x) (hb : Below w.heap.size w w') : Ox S0 w0 gl vs mk i q n cs (rx ρ w 0) w' va ls vw lw x where
  b := h.b.below hb
  ox := h.ox.below hb
  rx_ := fun k hk => by rw [rx_old (h.ox.lt k hk)]; exact h.rx_ k hk
  ll := h.ll
  sn := h.sn
theorem Ox.pushA {i q n : Nat} {x : Value} (h : Ox S0 w0 gl vs mk i q n cs ρ w va ls vw lw x) (hq : q < 40) (hg : Grow w w' va va') (ho : OwnM 1 w' va' (ls.length + 1) (ls ++ [x])) : Ox S0 w0 gl vs mk i (q + 1) n cs (rx ρ w 1) w' va' (ls ++ [x]) vw lw x := by
  have hd : ls.length / 40 = i := by rw [h.ll]; omega
  have hw : Wr ρ 1 w w' := Wr.grow hg h.b.ra
  constructor
  case b => exact h.b.pushA hg ho (by rw [hd]; exact h.ox.mkV) (fun k hk => ⟨h.ox.lt k hk, by rw [hd]; exact h.rx_ k hk⟩)
  case ox => exact h.ox.kept hw.size (fun g hg' => hw.block g (h.ox.lt g hg') (by rw [h.rx_ g hg']; omega))
  case rx_ => exact fun k hk => by rw [rx_old (h.ox.lt k hk)]; exact h.rx_ k hk
  case ll => rw [List.length_append, h.ll]; rfl
  case sn =>
    intro t u e hr
    rw [List.getElem?_append] at e
    split at e
    · exact h.sn t u e hr
    · obtain ⟨a, c, e1, _, _⟩ := h.ox.shape
      have ht := (List.getElem?_eq_some_iff.1 e).1
      simp at ht
      rw [show t - ls.length = 0 by omega] at e
      obtain rfl : x = u := Option.some.inj e
      exact ⟨a, n, c, e1, Nat.le_refl _⟩
theorem Ox.pushW {i q n : Nat} {x : Value} (h : Ox S0 w0 gl vs mk i q n cs ρ w va ls vw lw x) (hg : Grow w w' vw vw') (ho : OwnM 1 w' vw' (lw + 1) (whs (lw + 1))) : Ox S0 w0 gl vs mk i q n cs (rx ρ w 2) w' va ls vw' (lw + 1) x := by
  have hw : Wr ρ 2 w w' := Wr.grow hg h.b.rw_
  constructor
  case b => exact h.b.pushW hg ho
  case ox => exact h.ox.kept hw.size (fun g hg' => hw.block g (h.ox.lt g hg') (by rw [h.rx_ g hg']; omega))
  case rx_ => exact fun k hk => by rw [rx_old (h.ox.lt k hk)]; exact h.rx_ k hk
  case ll => exact h.ll
  case sn => exact h.sn
theorem Ox.grow {i q n : Nat} {x x' : Value} (h : Ox S0 w0 gl vs mk i q n cs ρ w va ls vw lw x) (hg : Grow w w' x x') (ho : OwnM 1 w' x' (n + 1) (List.replicate (n + 1) (mk i))) : Ox S0 w0 gl vs mk i q (n + 1) cs (rx ρ w (3 + i)) w' va ls vw lw x' := by
  have hw : Wr ρ (3 + i) w w' := Wr.grow hg h.rx_
  have hs := hw.size
  constructor
  case b =>
    constructor
    case kp => exact keep_wr h.b.kp h.b.lo hw (by omega)
    case lo => exact fun k h1 h2 => by rw [rx_old (Nat.lt_of_lt_of_le h1 h.b.kp.size)]; exact h.b.lo k h1 h2
    case gr => exact rangeAt_heap h.b.gr (hw.block gl h.b.lg (by rw [h.b.rg]; omega))
    case rg => rw [rx_old h.b.lg]; exact h.b.rg
    case lg => exact Nat.lt_of_lt_of_le h.b.lg hs
    case own =>
      intro j v hj ej
      obtain ⟨a', b'⟩ := h.b.own j v hj ej
      exact ⟨a'.kept hs (fun g' hg' => hw.block g' (a'.lt g' hg') (by rw [b' g' hg']; omega)), fun k hk => by rw [rx_old (a'.lt k hk)]; exact b' k hk⟩
    case oa => exact h.b.oa.kept hs (fun g' hg' => hw.block g' (h.b.oa.lt g' hg') (by rw [h.b.ra g' hg']; omega))
    case ra => exact fun k hk => by rw [rx_old (h.b.oa.lt k hk)]; exact h.b.ra k hk
    case ow => exact h.b.ow.kept hs (fun g' hg' => hw.block g' (h.b.ow.lt g' hg') (by rw [h.b.rw_ g' hg']; omega))
    case rw_ => exact fun k hk => by rw [rx_old (h.b.ow.lt k hk)]; exact h.b.rw_ k hk
    case mrk =>
      intro t u e
      obtain ⟨hM, b⟩ := h.b.mrk t u e
      refine ⟨?_, fun k hk => ⟨Nat.lt_of_lt_of_le (b k hk).1 hs, by rw [rx_old (b k hk).1]; exact (b k hk).2⟩⟩
      by_cases ht : t / 40 = i
      · obtain ⟨a0, m0, c0, e0, hm0⟩ := h.sn t u e ht
        obtain ⟨a, m, c, e1, hm, hc⟩ := hM
        rw [e0] at e1
        injection e1 with e1 e2 e3
        subst e1 e2 e3
        refine ⟨a0, m0, c0, e0, hm, fun j hj => ?_⟩
        obtain ⟨g, ea, h3, h4⟩ := hc j hj
        have keep : w'.heap[g]? = w.heap[g]? → ∃ g', a0 = some ⟨g', 0, none⟩ ∧ g' < w'.heap.size ∧ w'.cell? ⟨g', j, none⟩ = some (mk (t / 40)) := fun e' =>
          ⟨g, ea, Nat.lt_of_lt_of_le h3 hs, (World.cell?_of_block (a := ⟨g, j, none⟩) e').trans h4⟩
        by_cases hv : x.ownBlock = some g
        · rcases hg.alt with e4 | ⟨_, e4⟩
          · obtain ⟨g1, c1, f1, f2, f3⟩ := ho.cell (show (List.replicate (n + 1) (mk i))[j]? = some (mk i) by rw [List.getElem?_replicate, if_pos (by omega)])
            rw [hv] at e4
            have hg1 : g1 = g := by rw [f1] at e4; injection e4
            subst hg1
            rw [ht]
            exact ⟨_, ea, f3, f2⟩
          · exact keep (e4 g h3)
        · exact keep (hg.old g h3 hv)
      · exact hM.kept hs (fun k hk hl => hw.block k hl (by rw [(b k hk).2]; omega))
  case ox => exact ho
  case rx_ => exact Wr.own hg h.rx_ h.ox.lt
  case ll => exact h.ll
  case sn =>
    intro t u e hr
    obtain ⟨a, m, c, e1, e2⟩ := h.sn t u e hr
    exact ⟨a, m, c, e1, by omega⟩
end
end Go.Proofs.YtkiibcfjjplkaaaDoor
