import Derived.Test.YtkiibcfjjplkaaaDoorCSI7
namespace Go.Proofs.YtkiibcfjjplkaaaDoor
open Go.RowKit Go.Shelf
/-- both trees and what was told: roles 1 the tree, 2 the document's, 3 and 4 the lists of lists, 5 + j the j-th list that came out -/
structure Tk (B0 : Nat) (w0 : World) (q h qx ga : Nat) (As : Array Value) (LT LX : List (List UInt8)) (ρ : Nat → Nat) (w : World) (vl : Value) (ls : List Value) (vw : Value) (ws : List Value) (R : List (List (List UInt8))) : Prop where
  bel : Below B0 w0 w
  low : ∀ k, k < B0 → ρ k = 0
  tr : ∃ F, TrL w q h LT F ∧ ∀ k, F k → ρ k = 1
  rt : ∃ F, RtL w qx 1 LX F ∧ ∀ k, F k → ρ k = 2
  ak : w.heap[ga]? = some (.cells As 3 (0, 0))
  ra : ρ ga = 0
  ol : OwnM 1 w vl ls.length ls
  rl : ∀ k, vl.ownBlock = some k → ρ k = 3
  ow : OwnM 1 w vw ws.length ws
  rw_ : ∀ k, vw.ownBlock = some k → ρ k = 4
  l1 : ls.length = R.length
  l2 : ws.length = R.length
  own : ∀ (j : Nat) (l : List (List UInt8)), R[j]? = some l → ∃ v, ls[j]? = some v ∧ OwnM 1 w v l.length (svs l) ∧ ∀ k, v.ownBlock = some k → ρ k = 5 + j
  want : ∀ (j : Nat) (l : List (List UInt8)), R[j]? = some l → ∃ v, ws[j]? = some v ∧ OwnM 1 w v l.length (svs l) ∧ ∀ k, v.ownBlock = some k → ρ k = 0
section
variable {B0 : Nat} {w0 w w' : World} {q h qx ga : Nat} {As : Array Value} {LT LX : List (List UInt8)} {ρ : Nat → Nat} {vl vw : Value} {ls ws : List Value} {R : List (List (List UInt8))}
theorem bel_wr {r : Nat} (hb : Below B0 w0 w) (hB : B0 ≤ w0.heap.size) (lo : ∀ k, k < B0 → ρ k = 0) (hw : Wr ρ r w w') (h0 : r ≠ 0) : Below B0 w0 w' :=
  hb.trans ⟨hw.os, hw.tape, hw.output, hw.size, fun k hk => hw.block k (by have := hb.size; omega) (by rw [lo k hk]; exact fun e => h0 e.symm)⟩
theorem Wr.keepF {r : Nat} {F : Nat → Prop} (hw : Wr ρ r w w') (hF : ∀ k, F k → ρ k ≠ r) : Keep (fun k => ρ k = r) w w' ∧ ∀ k, F k → ¬ ρ k = r := ⟨⟨hw.os, hw.tape, hw.output, hw.size, hw.block⟩, hF⟩
theorem Tk.below (t : Tk B0 w0 q h qx ga As LT LX ρ w vl ls vw ws R) (hB : B0 ≤ w0.heap.size) (hb : Below w.heap.size w w') (ρ' : Nat → Nat) (hρ : ∀ k, k < w.heap.size → ρ' k = ρ k) : Tk B0 w0 q h qx ga As LT LX ρ' w' vl ls vw ws R where
  bel := t.bel.trans (hb.mono (Nat.le_trans hB t.bel.size))
  low := fun k hk => by rw [hρ k (by have := t.bel.size; omega)]; exact t.low k hk
  tr := by
    obtain ⟨F, h1, h2⟩ := t.tr
    exact ⟨F, h1.below hb, fun k hk => by rw [hρ k (h1.lt k hk)]; exact h2 k hk⟩
  rt := by
    obtain ⟨F, h1, h2⟩ := t.rt
    exact ⟨F, h1.below hb, fun k hk => by rw [hρ k (h1.lt k hk)]; exact h2 k hk⟩
  ak := (hb.block ga (lt_of_heap t.ak)).trans t.ak
  ra := by rw [hρ ga (lt_of_heap t.ak)]; exact t.ra
  ol := t.ol.below hb
  rl := fun k hk => by rw [hρ k (t.ol.lt k hk)]; exact t.rl k hk
  ow := t.ow.below hb
  rw_ := fun k hk => by rw [hρ k (t.ow.lt k hk)]; exact t.rw_ k hk
  l1 := t.l1
  l2 := t.l2
  own := fun j l e => by
    obtain ⟨v, a, b, c⟩ := t.own j l e
    exact ⟨v, a, b.below hb, fun k hk => by rw [hρ k (b.lt k hk)]; exact c k hk⟩
  want := fun j l e => by
    obtain ⟨v, a, b, c⟩ := t.want j l e
    exact ⟨v, a, b.below hb, fun k hk => by rw [hρ k (b.lt k hk)]; exact c k hk⟩
/-- a leaf is added to the tree -/
theorem Tk.addT {F F' : Nat → Prop} {LT' : List (List UInt8)} (t : Tk B0 w0 q h qx ga As LT LX ρ w vl ls vw ws R) (hB : B0 ≤ w0.heap.size) (h1 : TrL w q h LT F) (h2 : ∀ k, F k → ρ k = 1) (h3 : TrL w' q h LT' F') (hm : Mov F w w' F') : Tk B0 w0 q h qx ga As LT' LX (rx ρ w 1) w' vl ls vw ws R := by
  have hw : Wr ρ 1 w w' := ⟨hm.keep.os, hm.keep.tape, hm.keep.output, hm.keep.size, fun k hk hne => hm.keep.block k hk (fun e => hne (h2 k e))⟩
  have hs := hw.size
  constructor
  case bel => exact bel_wr t.bel hB t.low hw (by omega)
  case low => exact fun k hk => by rw [rx_old (by have := t.bel.size; omega)]; exact t.low k hk
  case tr =>
    refine ⟨F', h3, fun k hk => ?_⟩
    rcases hm.new k hk with e | e
    · rw [rx_old (h1.lt k e)]; exact h2 k e
    · exact rx_new e
  case rt =>
    obtain ⟨G, g1, g2⟩ := t.rt
    exact ⟨G, g1.keep ⟨hw.os, hw.tape, hw.output, hw.size, hw.block⟩ (fun k hk e => by have := g2 k hk; omega), fun k hk => by rw [rx_old (g1.lt k hk)]; exact g2 k hk⟩
  case ak => exact (hw.block ga (lt_of_heap t.ak) (by rw [t.ra]; omega)).trans t.ak
  case ra => rw [rx_old (lt_of_heap t.ak)]; exact t.ra
  case ol => exact t.ol.kept hs (fun k hk => hw.block k (t.ol.lt k hk) (by rw [t.rl k hk]; omega))
  case rl => exact fun k hk => by rw [rx_old (t.ol.lt k hk)]; exact t.rl k hk
  case ow => exact t.ow.kept hs (fun k hk => hw.block k (t.ow.lt k hk) (by rw [t.rw_ k hk]; omega))
  case rw_ => exact fun k hk => by rw [rx_old (t.ow.lt k hk)]; exact t.rw_ k hk
  case l1 => exact t.l1
  case l2 => exact t.l2
  case own =>
    intro j l e
    obtain ⟨v, a, b, c⟩ := t.own j l e
    exact ⟨v, a, b.kept hs (fun k hk => hw.block k (b.lt k hk) (by rw [c k hk]; omega)), fun k hk => by rw [rx_old (b.lt k hk)]; exact c k hk⟩
  case want =>
    intro j l e
    obtain ⟨v, a, b, c⟩ := t.want j l e
    exact ⟨v, a, b.kept hs (fun k hk => hw.block k (b.lt k hk) (by rw [c k hk]; omega)), fun k hk => by rw [rx_old (b.lt k hk)]; exact c k hk⟩
/-- a leaf is added to the document's tree -/
theorem Tk.addX {F F' : Nat → Prop} {LX' : List (List UInt8)} (t : Tk B0 w0 q h qx ga As LT LX ρ w vl ls vw ws R) (hB : B0 ≤ w0.heap.size) (h1 : RtL w qx 1 LX F) (h2 : ∀ k, F k → ρ k = 2) (h3 : RtL w' qx 1 LX' F') (hm : Mov F w w' F') : Tk B0 w0 q h qx ga As LT LX' (rx ρ w 2) w' vl ls vw ws R := by
  have hw : Wr ρ 2 w w' := ⟨hm.keep.os, hm.keep.tape, hm.keep.output, hm.keep.size, fun k hk hne => hm.keep.block k hk (fun e => hne (h2 k e))⟩
  have hs := hw.size
  constructor
  case bel => exact bel_wr t.bel hB t.low hw (by omega)
  case low => exact fun k hk => by rw [rx_old (by have := t.bel.size; omega)]; exact t.low k hk
  case rt =>
    refine ⟨F', h3, fun k hk => ?_⟩
    rcases hm.new k hk with e | e
    · rw [rx_old (h1.lt k e)]; exact h2 k e
    · exact rx_new e
  case tr =>
    obtain ⟨G, g1, g2⟩ := t.tr
    exact ⟨G, g1.keep ⟨hw.os, hw.tape, hw.output, hw.size, hw.block⟩ (fun k hk e => by have := g2 k hk; omega), fun k hk => by rw [rx_old (g1.lt k hk)]; exact g2 k hk⟩
  case ak => exact (hw.block ga (lt_of_heap t.ak) (by rw [t.ra]; omega)).trans t.ak
  case ra => rw [rx_old (lt_of_heap t.ak)]; exact t.ra
  case ol => exact t.ol.kept hs (fun k hk => hw.block k (t.ol.lt k hk) (by rw [t.rl k hk]; omega))
  case rl => exact fun k hk => by rw [rx_old (t.ol.lt k hk)]; exact t.rl k hk
  case ow => exact t.ow.kept hs (fun k hk => hw.block k (t.ow.lt k hk) (by rw [t.rw_ k hk]; omega))
  case rw_ => exact fun k hk => by rw [rx_old (t.ow.lt k hk)]; exact t.rw_ k hk
  case l1 => exact t.l1
  case l2 => exact t.l2
  case own =>
    intro j l e
    obtain ⟨v, a, b, c⟩ := t.own j l e
    exact ⟨v, a, b.kept hs (fun k hk => hw.block k (b.lt k hk) (by rw [c k hk]; omega)), fun k hk => by rw [rx_old (b.lt k hk)]; exact c k hk⟩
  case want =>
    intro j l e
    obtain ⟨v, a, b, c⟩ := t.want j l e
    exact ⟨v, a, b.kept hs (fun k hk => hw.block k (b.lt k hk) (by rw [c k hk]; omega)), fun k hk => by rw [rx_old (b.lt k hk)]; exact c k hk⟩
theorem two_at {α : Type} {l : List α} {a b x : α} {j : Nat} (e : (l ++ [a, b])[j]? = some x) : l[j]? = some x ∨ (j = l.length ∧ x = a) ∨ (j = l.length + 1 ∧ x = b) := by
  rw [List.getElem?_append] at e
  split at e
  · exact .inl e
  · next hj =>
    rcases hd : j - l.length with _ | _ | d
    · rw [hd] at e; exact .inr (.inl ⟨by omega, (Option.some.inj e).symm⟩)
    · rw [hd] at e; exact .inr (.inr ⟨by omega, (Option.some.inj e).symm⟩)
    · rw [hd] at e; cases e
/-- two lists came out, and the document's two -/
theorem Tk.push {w1 w2 : World} {vl' vw' a b c d : Value} {A B : List (List UInt8)} (t : Tk B0 w0 q h qx ga As LT LX ρ w vl ls vw ws R) (hB : B0 ≤ w0.heap.size)
    (oa : OwnM 1 w a A.length (svs A)) (ra : ∀ k, a.ownBlock = some k → ρ k = 5 + R.length) (ob : OwnM 1 w b B.length (svs B)) (rb : ∀ k, b.ownBlock = some k → ρ k = 5 + (R.length + 1))
    (oc : OwnM 1 w c A.length (svs A)) (rc : ∀ k, c.ownBlock = some k → ρ k = 0) (od : OwnM 1 w d B.length (svs B)) (rd : ∀ k, d.ownBlock = some k → ρ k = 0)
    (g1 : Grow w w1 vl vl') (o1 : OwnM 1 w1 vl' (ls.length + 2) (ls ++ [a, b])) (g2 : Grow w1 w2 vw vw') (o2 : OwnM 1 w2 vw' (ws.length + 2) (ws ++ [c, d])) :
    Tk B0 w0 q h qx ga As LT LX (rx (rx ρ w 3) w1 4) w2 vl' (ls ++ [a, b]) vw' (ws ++ [c, d]) (R ++ [A, B]) := by
  have hw1 : Wr ρ 3 w w1 := Wr.grow g1 t.rl
  have hs1 := hw1.size
  have hs2 := g2.size
  have hs : w.heap.size ≤ w2.heap.size := by omega
  have ρo : ∀ k, k < w.heap.size → rx (rx ρ w 3) w1 4 k = ρ k := fun k hk => by rw [rx_old (by omega), rx_old hk]
  have keep : ∀ k, k < w.heap.size → ρ k ≠ 3 → ρ k ≠ 4 → w2.heap[k]? = w.heap[k]? := fun k hk h3 h4 =>
    (g2.old k (by omega) (fun e => h4 (t.rw_ k e))).trans (hw1.block k hk h3)
  have vl_lt : ∀ k, vl'.ownBlock = some k → k < w1.heap.size := fun k hk => o1.lt k hk
  have vl_r : ∀ k, vl'.ownBlock = some k → rx (rx ρ w 3) w1 4 k = 3 := fun k hk => by rw [rx_old (vl_lt k hk)]; exact Wr.own g1 t.rl t.ol.lt k hk
  constructor
  case bel => exact t.bel.trans ⟨g2.os.trans g1.os, g2.tape.trans g1.tape, g2.output.trans g1.output, hs, fun k hk => keep k (by have := t.bel.size; omega) (by rw [t.low k hk]; omega) (by rw [t.low k hk]; omega)⟩
  case low => exact fun k hk => by rw [ρo k (by have := t.bel.size; omega)]; exact t.low k hk
  case tr =>
    obtain ⟨F, f1, f2⟩ := t.tr
    refine ⟨F, f1.keep (S := fun k => ρ k = 3 ∨ ρ k = 4) ⟨g2.os.trans g1.os, g2.tape.trans g1.tape, g2.output.trans g1.output, hs, fun k hk hn => keep k hk (fun e => hn (.inl e)) (fun e => hn (.inr e))⟩ (fun k hk e => by have := f2 k hk; omega), fun k hk => by rw [ρo k (f1.lt k hk)]; exact f2 k hk⟩
  case rt =>
    obtain ⟨F, f1, f2⟩ := t.rt
    refine ⟨F, f1.keep (S := fun k => ρ k = 3 ∨ ρ k = 4) ⟨g2.os.trans g1.os, g2.tape.trans g1.tape, g2.output.trans g1.output, hs, fun k hk hn => keep k hk (fun e => hn (.inl e)) (fun e => hn (.inr e))⟩ (fun k hk e => by have := f2 k hk; omega), fun k hk => by rw [ρo k (f1.lt k hk)]; exact f2 k hk⟩
  case ak => exact (keep ga (lt_of_heap t.ak) (by rw [t.ra]; omega) (by rw [t.ra]; omega)).trans t.ak
  case ra => rw [ρo ga (lt_of_heap t.ak)]; exact t.ra
  case ol =>
    rw [List.length_append]
    refine OwnM.kept o1 hs2 (fun k hk => g2.old k (vl_lt k hk) (fun e => ?_))
    have h1 := t.rw_ k e
    have h2 := vl_r k hk
    rw [ρo k (t.ow.lt k e), h1] at h2
    omega
  case rl => exact vl_r
  case ow => rw [List.length_append]; exact o2
  case rw_ =>
    intro k hk
    rcases g2.alt with e | ⟨e, _⟩
    · rw [e] at hk; rw [ρo k (t.ow.lt k hk)]; exact t.rw_ k hk
    · exact rx_new (e k hk)
  case l1 => rw [List.length_append, List.length_append, t.l1]; rfl
  case l2 => rw [List.length_append, List.length_append, t.l2]; rfl
  case own =>
    intro j l e
    rcases two_at e with e | ⟨rfl, rfl⟩ | ⟨rfl, rfl⟩
    · obtain ⟨v, f1, f2, f3⟩ := t.own j l e
      exact ⟨v, by rw [List.getElem?_append_left (List.getElem?_eq_some_iff.1 f1).1]; exact f1, f2.kept hs (fun k hk => keep k (f2.lt k hk) (by rw [f3 k hk]; omega) (by rw [f3 k hk]; omega)), fun k hk => by rw [ρo k (f2.lt k hk)]; exact f3 k hk⟩
    · exact ⟨a, by rw [List.getElem?_append_right (by rw [t.l1]; omega), t.l1, Nat.sub_self]; rfl, oa.kept hs (fun k hk => keep k (oa.lt k hk) (by rw [ra k hk]; omega) (by rw [ra k hk]; omega)), fun k hk => by rw [ρo k (oa.lt k hk)]; exact ra k hk⟩
    · exact ⟨b, by rw [List.getElem?_append_right (by rw [t.l1]; omega), t.l1, show R.length + 1 - R.length = 1 by omega]; rfl, ob.kept hs (fun k hk => keep k (ob.lt k hk) (by rw [rb k hk]; omega) (by rw [rb k hk]; omega)), fun k hk => by rw [ρo k (ob.lt k hk)]; exact rb k hk⟩
  case want =>
    intro j l e
    rcases two_at e with e | ⟨rfl, rfl⟩ | ⟨rfl, rfl⟩
    · obtain ⟨v, f1, f2, f3⟩ := t.want j l e
      exact ⟨v, by rw [List.getElem?_append_left (List.getElem?_eq_some_iff.1 f1).1]; exact f1, f2.kept hs (fun k hk => keep k (f2.lt k hk) (by rw [f3 k hk]; omega) (by rw [f3 k hk]; omega)), fun k hk => by rw [ρo k (f2.lt k hk)]; exact f3 k hk⟩
    · exact ⟨c, by rw [List.getElem?_append_right (by rw [t.l2]; omega), t.l2, Nat.sub_self]; rfl, oc.kept hs (fun k hk => keep k (oc.lt k hk) (by rw [rc k hk]; omega) (by rw [rc k hk]; omega)), fun k hk => by rw [ρo k (oc.lt k hk)]; exact rc k hk⟩
    · exact ⟨d, by rw [List.getElem?_append_right (by rw [t.l2]; omega), t.l2, show R.length + 1 - R.length = 1 by omega]; rfl, od.kept hs (fun k hk => keep k (od.lt k hk) (by rw [rd k hk]; omega) (by rw [rd k hk]; omega)), fun k hk => by rw [ρo k (od.lt k hk)]; exact rd k hk⟩
/-- for owned -/
theorem Tk.toOw {gl cl : Nat} (t : Tk B0 w0 q h qx ga As LT LX ρ w (.slice (some ⟨gl, 0, none⟩) ls.length cl) ls vw ws R) : Ow (fun k => 5 ≤ ρ k) w gl ls mkS 0 (fun j => svs (R.getD j [])) (fun k => if 5 ≤ ρ k then ρ k - 2 else 0) w (.slice none 0 0) [] (.slice none 0 0) 0 where
  kp := ⟨rfl, rfl, rfl, Nat.le_refl _, fun _ _ _ => rfl⟩
  lo := fun k _ h => if_neg h
  gr := by
    rcases t.ol with ⟨e, _⟩ | ⟨g, cap, e, h1, h2, h3, h4, h5, h6⟩
    · cases e
    · injection e with e _ _
      injection e with e
      injection e with e
      subst e
      exact h4
  rg := by rw [t.rl gl rfl]; rfl
  lg := t.ol.lt gl rfl
  own := fun j v _ e => by
    have hj := (List.getElem?_eq_some_iff.1 e).1
    have hjR : j < R.length := by rw [← t.l1]; exact hj
    obtain ⟨v', f1, f2, f3⟩ := t.own j R[j] (List.getElem?_eq_getElem hjR)
    obtain rfl : v' = v := Option.some.inj (f1.symm.trans e)
    have eg : R.getD j [] = R[j] := by simp [List.getD, hjR]
    rw [eg, svs_length]
    exact ⟨f2, fun k hk => by rw [f3 k hk, if_pos (by omega)]; omega⟩
  oa := OwnM.nil 1 w
  ra := fun k hk => by cases hk
  ow := OwnM.nil 1 w
  rw_ := fun k hk => by cases hk
  mrk := fun t v e => by cases e
end
end Go.Proofs.YtkiibcfjjplkaaaDoor
