import Derived.Test.YtnnohacciikofaaDoorCO56
import Derived.Test.YtnnohacciikofaaDoorCFN9
import Derived.Test.YtnnohacciikofaaDoorCRF6
namespace Go.Proofs.YtnnohacciikofaaDoor
open Go.RowKit
/-- a range in a list of ranges: what it is, and where its hashes lie -/
abbrev Prv := Prt × Option Addr × Nat
def pv (x : Prv) : Value := .slice x.2.1 x.1.2.2.length x.2.2
def pc1 (x : Prv) : List Value := [.int .i64 (x.1.1 : Int), .int .i64 (x.1.2.1 : Int), pv x]
def pcs : List Prv → List Value
  | [] => []
  | x :: l => pc1 x ++ pcs l
theorem pcs_append : ∀ (l m : List Prv), pcs (l ++ m) = pcs l ++ pcs m
  | [], m => rfl
  | x :: l, m => by rw [List.cons_append, pcs, pcs_append l m, pcs, List.append_assoc]
theorem pcs_length : ∀ (l : List Prv), (pcs l).length = l.length * 3
  | [] => rfl
  | x :: l => by rw [pcs, List.length_append, pcs_length l, List.length_cons]; simp [pc1]; omega
theorem pcs_get : ∀ (l : List Prv) (j : Nat) (x : Prv), l[j]? = some x → (pcs l)[j * 3]? = some (.int .i64 (x.1.1 : Int)) ∧ (pcs l)[j * 3 + 1]? = some (.int .i64 (x.1.2.1 : Int)) ∧ (pcs l)[j * 3 + 2]? = some (pv x)
  | [], j, x, h => by simp at h
  | g :: l, 0, x, h => by
    simp at h
    subst h
    exact ⟨rfl, rfl, rfl⟩
  | g :: l, j + 1, x, h => by
    have ih := pcs_get l j x (by simpa using h)
    have e : ∀ i, (pcs (g :: l))[(j + 1) * 3 + i]? = (pcs l)[j * 3 + i]? := fun i => by
      rw [pcs, List.getElem?_append_right (by simp [pc1]; omega)]
      congr 1
      simp [pc1]
      omega
    exact ⟨(e 0).trans ih.1, (e 1).trans ih.2.1, (e 2).trans ih.2.2⟩
theorem pcs_take : ∀ (l : List Prv) (k : Nat), pcs (l.take k) = (pcs l).take (k * 3)
  | [], k => by simp [pcs]
  | x :: l, 0 => by simp [pcs]
  | x :: l, k + 1 => by
    have h3 : (pc1 x).length = 3 := rfl
    rw [List.take_succ_cons, pcs, pcs, pcs_take l k, List.take_append, h3, show (k + 1) * 3 - 3 = k * 3 by omega]
    congr 1
    exact (List.take_of_length_le (by omega)).symm
theorem pcs_drop : ∀ (l : List Prv) (k : Nat), pcs (l.drop k) = (pcs l).drop (k * 3)
  | [], k => by simp [pcs]
  | x :: l, 0 => by simp
  | x :: l, k + 1 => by
    have h3 : (pc1 x).length = 3 := rfl
    have e0 : (pc1 x).drop ((k + 1) * 3) = [] := List.drop_eq_nil_of_le (by omega)
    rw [List.drop_succ_cons, pcs, pcs_drop l k, List.drop_append, h3, show (k + 1) * 3 - 3 = k * 3 by omega, e0, List.nil_append]
theorem pcs_set : ∀ (l : List Prv) (j : Nat) (x : Prv), j < l.length → pcs (l.set j x) = (((pcs l).set (j * 3) (.int .i64 (x.1.1 : Int))).set (j * 3 + 1) (.int .i64 (x.1.2.1 : Int))).set (j * 3 + 2) (pv x)
  | [], j, x, h => by simp at h
  | g :: l, 0, x, _ => rfl
  | g :: l, j + 1, x, h => by
    have ih := pcs_set l j x (by simpa using h)
    have e : ∀ (m : List Value) (i : Nat) (u : Value), (pc1 g ++ m).set ((j + 1) * 3 + i) u = pc1 g ++ m.set (j * 3 + i) u := fun m i u => by
      rw [List.set_append, if_neg (by simp [pc1]; omega)]
      congr 2
      simp [pc1]
      omega
    rw [List.set_cons_succ, pcs, pcs, ih]
    have e0 := e (pcs l) 0 (.int .i64 (x.1.1 : Int))
    have e1 : (j + 1) * 3 + 0 = (j + 1) * 3 := rfl
    rw [e1] at e0
    rw [e0, e, e]
    rfl
/-- a cell of a list of structs is written -/
theorem OwnM.setc {m : Nat} {w : World} {g n c : Nat} {cs : List Value} (h : OwnM m w (.slice (some ⟨g, 0, none⟩) n c) n cs) {j : Nat} (hj : j < cs.length) (u : Value) : OwnM m (w.setCell ⟨g, j, none⟩ u) (.slice (some ⟨g, 0, none⟩) n c) n (cs.set j u) := by
  rcases h with ⟨h, _⟩ | ⟨g', cap', h, h2, h3, h0, h4, h5, h6⟩
  · cases h
  · injection h with e1 e2 e3
    injection e1 with e1
    injection e1 with e1
    subst e1 e3
    have hle : n * m ≤ c * m := Nat.mul_le_mul_right _ h2
    have hset : w.setCell ⟨g, j, none⟩ u = w.setCells g j [u] := rfl
    rw [hset]
    refine .inr ⟨g, c, rfl, h2, h3, by rw [List.length_set]; exact h0, fun i x hx => ?_, World.there_setCells h5 _ _ _, ?_⟩
    · by_cases hij : i = j
      · subst hij
        rw [List.getElem?_set_self hj] at hx
        injection hx with hx
        subst hx
        have ht : w.there g i 1 := fun k hk => by
          have := h5 (i + k) (by omega)
          simpa using this
        have := World.rangeAt_setCells_same w g i [u] ht 0 u rfl
        simpa using this
      · rw [List.getElem?_set_ne (by omega)] at hx
        have h7 : w.rangeAt g i [x] := fun k v hv => by
          match k, hv with
          | 0, hv =>
            obtain rfl := Option.some.inj hv
            have := h4 i _ hx
            simpa using this
        have := World.rangeAt_setCells_apart h7 g j [u] (by simp; omega) 0 x rfl
        simpa using this
    · have := (But.setCells [u] j (But.refl g w)).size
      omega
end Go.Proofs.YtnnohacciikofaaDoor

namespace Go.Proofs.YtnnohacciikofaaDoor
open Go.RowKit
/-- a list of ranges, and their hashes, new since B; the ranges' own rows lie apart from the list's -/
structure Pm (w : World) (B : Nat) (v : Value) (qs : List Prv) : Prop where
  own : OwnM 3 w v qs.length (pcs qs)
  ge : ∀ k, v.ownBlock = some k → B ≤ k
  el : ∀ x ∈ qs, Own w B (pv x) (svs x.1.2.2) ∧ ∀ k, (pv x).ownBlock = some k → v.ownBlock ≠ some k
theorem Pm.nil (w : World) (B : Nat) : Pm w B (.slice none 0 0) [] := ⟨OwnM.nil 3 w, fun k hk => (by cases hk), fun x hx => (by cases hx)⟩
theorem Pm.below {w w' : World} {B : Nat} {v : Value} {qs : List Prv} (h : Pm w B v qs) (hb : Below w.heap.size w w') : Pm w' B v qs :=
  ⟨h.own.below hb, h.ge, fun x hx => ⟨(h.el x hx).1.below hb (Nat.le_refl _), (h.el x hx).2⟩⟩
theorem infoRgM : (Tryd.prog.info? 28).map (fun i => (i.zero, i.size, i.bytes)) = some (some (.agg #[.int .i64 0, .int .i64 0, .slice none 0 0]), 3, 40) := by kernel_rfl
theorem undRgM : Tryd.prog.underlying 33 = some (.slice 28) := by kernel_rfl
/-- what a growing list leaves: the ranges' hashes -/
theorem Pm.grown {w w' : World} {B : Nat} {v v' : Value} {qs : List Prv} (h : Pm w B v qs) (hB : B ≤ w.heap.size) (hg : Grow w w' v v') : (∀ k, v'.ownBlock = some k → B ≤ k) ∧ ∀ x : Prv, Own w B (pv x) (svs x.1.2.2) → (∀ k, (pv x).ownBlock = some k → v.ownBlock ≠ some k) → Own w' B (pv x) (svs x.1.2.2) ∧ ∀ k, (pv x).ownBlock = some k → v'.ownBlock ≠ some k := by
  refine ⟨fun k hk => ?_, fun x ho hne => ⟨ho.keep hg.keep fun k hk e => hne k hk e, fun k hk e => ?_⟩⟩
  · rcases hg.alt with e | ⟨e, _⟩
    · exact h.ge k (e ▸ hk)
    · exact Nat.le_trans hB (e k hk)
  · rcases hg.alt with e' | ⟨e', _⟩
    · exact hne k hk (e' ▸ e)
    · have := e' k e
      have := ho.lt k hk
      omega
theorem Grow.low5 {w w' : World} {v v' : Value} {B : Nat} (h : Grow w w' v v') (hB : B ≤ w.heap.size) (hv : ∀ k, v.ownBlock = some k → B ≤ k) : Below B w w' :=
  ⟨h.os, h.tape, h.output, h.size, fun k hk => h.old k (by omega) fun e => by have := hv k e; omega⟩
/-- append(parts, r) -/
theorem Pm.push {w : World} {B : Nat} {v : Value} {qs : List Prv} (h : Pm w B v qs) (x : Prv) (hB : B ≤ w.heap.size) (hl : qs.length ≤ 2000000) (ho : Own w B (pv x) (svs x.1.2.2)) (hne : ∀ k, (pv x).ownBlock = some k → v.ownBlock ≠ some k) :
    ∃ v' w', (Builtin.append_ #[33, 33] 33 #[v, .slice (some ⟨w.heap.size, 0, none⟩) 1 1]).run Tryd.prog (w.alloc (.cells (pc1 x).toArray 28)) = .ok v' w' ∧ Pm w' B v' (qs ++ [x]) ∧ Below B w w' := by
  obtain ⟨v', w', h1, h2, h3⟩ := append_oneM (m := 3) 33 28 _ 40 (by decide) undRgM infoRgM rfl w v qs.length (pcs qs) (pc1 x) rfl (fun u hu => by
    simp only [pc1, List.mem_cons, List.not_mem_nil, or_false] at hu
    rcases hu with rfl | rfl | rfl <;> rfl) h.own hl
  obtain ⟨g1, g2⟩ := h.grown hB h3
  refine ⟨v', w', h1, ⟨?_, g1, fun y hy => ?_⟩, h3.low5 hB h.ge⟩
  · rw [List.length_append, pcs_append]
    have : pcs [x] = pc1 x := by rw [pcs, pcs, List.append_nil]
    rw [this]
    exact h2
  · rcases List.mem_append.1 hy with hy | hy
    · exact g2 y (h.el y hy).1 (h.el y hy).2
    · rw [List.mem_singleton.1 hy]
      exact g2 x ho hne
/-- parts[i] = r -/
theorem Pm.put {w : World} {B g n c : Nat} {qs : List Prv} (h : Pm w B (.slice (some ⟨g, 0, none⟩) n c) qs) (hn : qs.length = n) (x : Prv) {i : Nat} (hi : i < n) (ho : Own w B (pv x) (svs x.1.2.2)) (hne : ∀ k, (pv x).ownBlock = some k → k ≠ g) :
    Pm (((w.setCell ⟨g, i * 3, none⟩ (.int .i64 (x.1.1 : Int))).setCell ⟨g, i * 3 + 1, none⟩ (.int .i64 (x.1.2.1 : Int))).setCell ⟨g, i * 3 + 2, none⟩ (pv x)) B (.slice (some ⟨g, 0, none⟩) n c) (qs.set i x) ∧ Below B w (((w.setCell ⟨g, i * 3, none⟩ (.int .i64 (x.1.1 : Int))).setCell ⟨g, i * 3 + 1, none⟩ (.int .i64 (x.1.2.1 : Int))).setCell ⟨g, i * 3 + 2, none⟩ (pv x)) := by
  have hlen := pcs_length qs
  have hm := h.own
  rw [hn] at hm hlen
  have h1 := hm.setc (j := i * 3) (by omega) (.int .i64 (x.1.1 : Int))
  have h2 := h1.setc (j := i * 3 + 1) (by rw [List.length_set]; omega) (.int .i64 (x.1.2.1 : Int))
  have h3 := h2.setc (j := i * 3 + 2) (by rw [List.length_set, List.length_set]; omega) (pv x)
  have kk : Keep (fun k => k = g) w (((w.setCell ⟨g, i * 3, none⟩ (.int .i64 (x.1.1 : Int))).setCell ⟨g, i * 3 + 1, none⟩ (.int .i64 (x.1.2.1 : Int))).setCell ⟨g, i * 3 + 2, none⟩ (pv x)) :=
    ((Keep.ofSet (S := fun k => k = g) w g (i * 3) _ rfl).trans (Keep.ofSet (S := fun k => k = g) _ g (i * 3 + 1) _ rfl) (fun _ _ e => e)).trans (Keep.ofSet (S := fun k => k = g) _ g (i * 3 + 2) _ rfl) (fun _ _ e => e)
  have hgB : B ≤ g := h.ge g rfl
  have hgl := hm.lt g rfl
  refine ⟨⟨?_, h.ge, fun y hy => ?_⟩, kk.toBelow (by omega) (fun k hk => by omega)⟩
  · rw [List.length_set, hn, pcs_set qs i x (by omega)]
    exact h3
  · rcases List.mem_or_eq_of_mem_set hy with hy | rfl
    · exact ⟨(h.el y hy).1.keep kk (fun k hk e => (h.el y hy).2 k hk (by rw [e]; rfl)), (h.el y hy).2⟩
    · exact ⟨ho.keep kk (fun k hk e => hne k hk e), fun k hk e => hne k hk (by injection e with e; exact e.symm)⟩
set_option maxRecDepth 100000 in
/-- append(parts[:i+1], parts[i+2:]...) -/
theorem Pm.shut {w : World} {B g n c : Nat} {qs : List Prv} (h : Pm w B (.slice (some ⟨g, 0, none⟩) n c) qs) (hn : qs.length = n) (hn2 : n ≤ 2000000) (hB : B ≤ w.heap.size) {i : Nat} (hi : i + 2 ≤ n) (a : Addr) (ha : i + 2 < n → a = ⟨g, (i + 2) * 3, none⟩) (cc : Nat) :
    ∃ v' w', (Builtin.append_ #[33, 33] 33 #[.slice (some ⟨g, 0, none⟩) (i + 1) c, .slice (some a) (n - (i + 2)) cc]).run Tryd.prog w = .ok v' w' ∧ Pm w' B v' (qs.take (i + 1) ++ qs.drop (i + 2)) ∧ Below B w w' := by
  have hm := h.own
  rw [hn] at hm
  have hcut := hm.cut (show i + 1 ≤ n by omega)
  obtain ⟨i0, hi0, hz0, hz1, hz2⟩ := info_parts infoRgM
  have hsrc : Src Tryd.prog 3 33 (.slice (some a) (n - (i + 2)) cc) (n - (i + 2)) (pcs (qs.drop (i + 2))) w :=
    Src.ofSlice _ undRgM a (n - (i + 2)) cc _ (by rw [pcs_length, List.length_drop, hn]) (fun j u hj => by
      have hjl := (List.getElem?_eq_some_iff.1 hj).1
      rw [pcs_length, List.length_drop, hn] at hjl
      rw [ha (by omega), Addr.add_mid]
      rw [pcs_drop, List.getElem?_drop] at hj
      obtain ⟨g', cap', he, hc, _⟩ := hm.cell hj
      injection he with e1 e2 e3
      injection e1 with e1
      injection e1 with e1
      subst e1
      exact hc) (fun u hu => by
      have : ∀ (l : List Prv), ∀ u ∈ pcs l, u.oneCell' = true := fun l => by
        induction l with
        | nil => intro u hu; cases hu
        | cons y l ih =>
          intro u hu
          rw [pcs] at hu
          rcases List.mem_append.1 hu with hu | hu
          · simp only [pc1, List.mem_cons, List.not_mem_nil, or_false] at hu
            rcases hu with rfl | rfl | rfl <;> rfl
          · exact ih u hu
      exact this _ u hu)
  obtain ⟨v', w', h1, h2, h3⟩ := run_append_M (P := Tryd.prog) w 33 33 33 28 i0 _ undRgM hi0 hz0 hz1 rfl (.slice (some ⟨g, 0, none⟩) (i + 1) c) (i + 1) _ hcut _ (n - (i + 2)) _ hsrc
    (by rw [hz2]; omega) (by rw [maxLen]; omega) (fun e => by cases e)
  have hg : Grow w w' (.slice (some ⟨g, 0, none⟩) n c) v' := ⟨h3.os, h3.tape, h3.output, h3.size, h3.old, h3.alt⟩
  obtain ⟨g1, g2⟩ := h.grown hB hg
  refine ⟨v', w', h1, ⟨?_, g1, fun y hy => ?_⟩, hg.low5 hB h.ge⟩
  · rw [List.length_append, List.length_take, List.length_drop, hn, Nat.min_eq_left (by omega), pcs_append, pcs_take]
    exact h2
  · have hy' : y ∈ qs := by
      rcases List.mem_append.1 hy with hy | hy
      · exact List.mem_of_mem_take hy
      · exact List.mem_of_mem_drop hy
    exact g2 y (h.el y hy').1 (h.el y hy').2
end Go.Proofs.YtnnohacciikofaaDoor

namespace Go.Proofs.YtnnohacciikofaaDoor
open Go.RowKit
/-- two ranges in a list of them, as cells -/
def S6 (g i j : Nat) (x0 x1 x2 y0 y1 y2 : Value) (w : World) : Prop :=
  w.cell? ⟨g, i, none⟩ = some x0 ∧ w.cell? ⟨g, i + 1, none⟩ = some x1 ∧ w.cell? ⟨g, i + 2, none⟩ = some x2 ∧ w.cell? ⟨g, j, none⟩ = some y0 ∧ w.cell? ⟨g, j + 1, none⟩ = some y1 ∧ w.cell? ⟨g, j + 2, none⟩ = some y2
theorem S6.below {g i j B : Nat} {x0 x1 x2 y0 y1 y2 : Value} {w w' : World} (h : S6 g i j x0 x1 x2 y0 y1 y2 w) (hb : Below B w w') (hg : g < B) : S6 g i j x0 x1 x2 y0 y1 y2 w' := by
  have e : ∀ o, w'.cell? ⟨g, o, none⟩ = w.cell? ⟨g, o, none⟩ := fun o => World.cell?_of_block (w := w) (hb.block g hg)
  obtain ⟨h0, h1, h2, h3, h4, h5⟩ := h
  exact ⟨(e _).trans h0, (e _).trans h1, (e _).trans h2, (e _).trans h3, (e _).trans h4, (e _).trans h5⟩
/-- a joined range lies in a variable of its own -/
structure Jn (w w' : World) (g b e : Nat) (a : Option Addr) (n k : Nat) (M : List (List UInt8)) : Prop where
  new : w.heap.size ≤ g
  rg : Rg w' g (b : Int) (e : Int) (.slice a n k)
  bel : Below w.heap.size w w'
  own : Own w' w.heap.size (.slice a n k) (svs M)
theorem join_at (w : World) (Z : Tb w) (b c e : Nat) (H1 H2 M : List (List UInt8)) (a1 a2 : Option Addr) (n1 n2 n k1 k2 : Nat) (h1 : H1.length = n1) (h2 : H2.length = n2) (h3 : M.length = n) (hl1 : n1 ≤ 9223372036854775807) (hl2 : n2 ≤ 9223372036854775807) (hA1 : At w a1 H1) (hA2 : At w a2 H2)
    (hE : joinE (b : Int) (c : Int) (c : Int) (e : Int) H1 H2 = 0) (hM : Cut.joinH b c e H1 H2 = M) :
    Calls Tryd.prog 9 #[rng (b : Int) (c : Int) (.slice a1 n1 k1), rng (c : Int) (e : Int) (.slice a2 n2 k2)] w fun r w' => ∃ a k, r = .returned (.tuple #[rng (b : Int) (e : Int) (.slice a n k), .int .i64 0]) ∧ Own w' w.heap.size (.slice a n k) (svs M) ∧ Below w.heap.size w w' := by
  subst h1 h2 h3
  have i := Join_any (b : Int) (c : Int) (c : Int) (e : Int) H1 H2 a1 a2 k1 k2 w hl1 hl2 hA1 hA2 Z
  rw [hE, Int.toNat_natCast, Int.toNat_natCast, Int.toNat_natCast, hM] at i
  refine i.mono fun r w' h => ?_
  obtain ⟨v, rfl, O, bb⟩ := h.some5
  rw [show sel 0 (b : Int) = (b : Int) from rfl, show sel 0 (e : Int) = (e : Int) from rfl, show selL 0 M = M from rfl] at *
  obtain ⟨a, k, rfl, _, _, _, _⟩ := O.at_base
  exact ⟨a, k, rfl, O, bb⟩
/-- r, f := Join(x, y): the variable made behind the call, or ahead of it -/
theorem join_both (w : World) (Z : Tb w) (b c e : Nat) (H1 H2 M : List (List UInt8)) (a1 a2 : Option Addr) (n1 n2 n k1 k2 : Nat) (h1 : H1.length = n1) (h2 : H2.length = n2) (h3 : M.length = n) (hl1 : n1 ≤ 9223372036854775807) (hl2 : n2 ≤ 9223372036854775807) (hA1 : At w a1 H1) (hA2 : At w a2 H2)
    (hE : joinE (b : Int) (c : Int) (c : Int) (e : Int) H1 H2 = 0) (hM : Cut.joinH b c e H1 H2 = M) :
    (Calls Tryd.prog 9 #[rng (b : Int) (c : Int) (.slice a1 n1 k1), rng (c : Int) (e : Int) (.slice a2 n2 k2)] w.drew fun r w' => ∃ a k, r = .returned (.tuple #[rng (b : Int) (e : Int) (.slice a n k), .int .i64 0]) ∧
      Hid (Below w.heap.size w w') ∧ Hid (Jn w (w'.alloc (.cells #[Value.int .i64 (b : Int), .int .i64 (e : Int), .slice a n k] 28)) w'.heap.size b e a n k M)) ∧
    (Calls Tryd.prog 9 #[rng (b : Int) (c : Int) (.slice a1 n1 k1), rng (c : Int) (e : Int) (.slice a2 n2 k2)] (w.alloc (.cells #[Value.int .i64 0, .int .i64 0, .slice none 0 0] 28)).drew fun r w' => ∃ a k, r = .returned (.tuple #[rng (b : Int) (e : Int) (.slice a n k), .int .i64 0]) ∧
      Hid (Below w.heap.size w w') ∧ Hid (Jn w (((w'.setCell ⟨w.heap.size, 0, none⟩ (.int .i64 (b : Int))).setCell ⟨w.heap.size, 1, none⟩ (.int .i64 (e : Int))).setCell ⟨w.heap.size, 2, none⟩ (.slice a n k)) w.heap.size b e a n k M) ∧ Rg w' w.heap.size 0 0 (.slice none 0 0)) := by
  have bd := (Below.refl w.heap.size w).drew
  have az := (Below.refl w.heap.size w).alloc (Nat.le_refl _) (.cells #[Value.int .i64 0, .int .i64 0, .slice none 0 0] 28)
  have sz := size_alloc w (.cells #[Value.int .i64 0, .int .i64 0, .slice none 0 0] 28)
  have rz := Rg.new w 0 0 (.slice none 0 0)
  constructor
  · refine (join_at w.drew (Z.below bd Z.lt) b c e H1 H2 M a1 a2 n1 n2 n k1 k2 h1 h2 h3 hl1 hl2 (hA1.below bd (Nat.le_refl _)) (hA2.below bd (Nat.le_refl _)) hE hM).mono ?_
    rintro r w' ⟨a, k, rfl, O, bb⟩
    have b1 := drewBelow5 bb
    have hal := (Below.refl w'.heap.size w').alloc (Nat.le_refl _) (.cells #[Value.int .i64 (b : Int), .int .i64 (e : Int), .slice a n k] 28)
    exact ⟨a, k, rfl, hid b1, hid ⟨b1.size, Rg.new w' _ _ _, b1.trans (hal.mono b1.size), O.below hal (Nat.le_refl _)⟩⟩
  · have bd2 := az.drew
    refine (join_at _ (Z.below bd2 Z.lt) b c e H1 H2 M a1 a2 n1 n2 n k1 k2 h1 h2 h3 hl1 hl2 (hA1.below bd2 (Nat.le_refl _)) (hA2.below bd2 (Nat.le_refl _)) hE hM).mono ?_
    rintro r w' ⟨a, k, rfl, O, bb⟩
    have b1 := drewBelow5 bb
    have b2 := az.trans (b1.mono az.size)
    have rz2 := rz.below b1
    have O1 : Own w' (w.heap.size + 1) (.slice a n k) (svs M) := by rw [← sz]; exact O
    have O2 := O1.keep (Keep.ofSet (S := fun k => k = w.heap.size) w' w.heap.size 0 (.int .i64 (b : Int)) rfl) (fun k hk e => by have := O1.ge k hk; omega)
    have O3 := O2.keep (Keep.ofSet (S := fun k => k = w.heap.size) _ w.heap.size 1 (.int .i64 (e : Int)) rfl) (fun k hk e => by have := O1.ge k hk; omega)
    have O4 := O3.keep (Keep.ofSet (S := fun k => k = w.heap.size) _ w.heap.size 2 (.slice a n k) rfl) (fun k hk e => by have := O1.ge k hk; omega)
    refine ⟨a, k, rfl, hid b2, hid ⟨Nat.le_refl _, ?_, ?_, O4.mono (by omega)⟩, rz2⟩
    · rw [rg_three rz2]
      exact setRow_heap _ _ _ _ _ _ rz2
    · rw [rg_three rz2]
      exact Below.setRow b2 (Nat.le_refl _) _
end Go.Proofs.YtnnohacciikofaaDoor
