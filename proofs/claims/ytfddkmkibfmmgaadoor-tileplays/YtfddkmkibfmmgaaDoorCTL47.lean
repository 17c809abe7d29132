import Derived.Test.YtfddkmkibfmmgaaDoorCTL44
namespace Go.Proofs.YtfddkmkibfmmgaaDoor
namespace Wb
open Go.RowKit
theorem setG_block (w : World) (g o : Nat) (y : Value) {k : Nat} (hk : k ≠ g) : (w.setCell ⟨g, o, none⟩ y).heap[k]? = w.heap[k]? := Below.heap_setCell w _ y k hk
theorem Fam.setG {w : World} {X f g : Nat} {ρ : Rol} {mv : Nat → Value} {v : Value} {GS : List Value} (h : Fam w X ρ f mv v GS) {p q : Nat} (hg : ρ g = some (.ls p q)) (o : Nat) (y : Value) : Fam (w.setCell ⟨g, o, none⟩ y) X ρ f mv v GS :=
  h.keep (by rw [setX_size]; exact Nat.le_refl _) (fun k r hr hf => ⟨setG_block w g o y fun e => by rw [e, hg] at hr; obtain rfl := Option.some.inj hr; exact hf, hr⟩) fun _ _ _ e => e
theorem Lst.setG {w : World} {X t lo g : Nat} {ρ : Rol} {v : Value} {us : List Value} {Ls : List (List Value)} (h : Lst w X ρ t lo v us Ls) {p q : Nat} (hg : ρ g = some (.ls p q)) (hne : p ≠ t) (o : Nat) (y : Value) : Lst (w.setCell ⟨g, o, none⟩ y) X ρ t lo v us Ls :=
  h.keep (by rw [setX_size]; exact Nat.le_refl _) fun k r hr hf => ⟨setG_block w g o y fun e => by rw [e, hg] at hr; obtain rfl := Option.some.inj hr; exact hne hf, hr⟩
theorem Lst.set {w : World} {X t lo g i n c k : Nat} {ρ : Rol} {v : Value} {us : List Value} {Ls : List (List Value)} {L : List Value} (h : Lst w X ρ t lo v us Ls) (hlo : lo ≤ i) (hu : us[i]? = some (.slice (some ⟨g, 0, none⟩) n c)) (hL : Ls[i]? = some L) (hk : k < L.length) (y : Value) :
    ρ g = some (.ls t i) ∧ Lst (w.setCell ⟨g, k, none⟩ y) X ρ t lo v us (Ls.set i (L.set k y)) := by
  obtain ⟨o1, o2, o3⟩ := h.each i _ L hlo hu hL
  have hg := o3 g rfl
  have hsz : w.heap.size ≤ (w.setCell ⟨g, k, none⟩ y).heap.size := by rw [setX_size]; exact Nat.le_refl _
  refine ⟨hg, ⟨h.own.kept hsz fun j hj => setG_block w g k y fun e => ?_, h.rl, by rw [List.length_set]; exact h.len, fun j u M h0 h1 h2 => ?_⟩⟩
  · have := h.rl j hj
    rw [e, hg] at this; cases this
  · by_cases e : j = i
    · subst e
      rw [hu] at h1
      obtain rfl := Option.some.inj h1
      have hj : j < Ls.length := (List.getElem?_eq_some_iff.1 hL).1
      rw [List.getElem?_set_self hj] at h2
      obtain rfl := Option.some.inj h2
      have hn : n = L.length := by
        rcases own_cases o1 with ⟨e, _⟩ | ⟨g', c', e, _⟩
        · cases e
        · injection e
      subst hn
      have h3 := Own.setT o1 k hk y
      rw [List.length_set] at h3
      exact ⟨h3, by rw [List.length_set]; exact o2, o3⟩
    · rw [List.getElem?_set_ne (Ne.symm e)] at h2
      obtain ⟨q1, q2, q3⟩ := h.each j u M h0 h1 h2
      refine ⟨q1.kept hsz fun b hb => setG_block w g k y fun e' => ?_, q2, q3⟩
      have := q3 b hb
      rw [e', hg] at this
      injection this with this
      injection this with _ this
      exact e this.symm
theorem Bk.set2 {w : World} {X g i n c k : Nat} {ρ : Rol} {S : BS} {L : List Value} (h : Bk w X ρ S) (hlo : S.o2 ≤ i) (hu : S.u2[i]? = some (.slice (some ⟨g, 0, none⟩) n c)) (hL : S.L2[i]? = some L) (hk : k < L.length) (y : Value) : Bk (w.setCell ⟨g, k, none⟩ y) X ρ { S with L2 := S.L2.set i (L.set k y) } := by
  obtain ⟨hg, F⟩ := h.f2.set hlo hu hL hk y
  have hgX : X ≠ g := fun e => by rw [← e, h.rX] at hg; cases hg
  exact ⟨(setG_block w g k y hgX).trans h.row, h.rX, fun j r hr => by rw [setX_size]; exact h.lt j r hr, h.T.setG hg _ _, F, h.f3.setG hg (by decide) _ _⟩
theorem Bk.adopt2 {w : World} {X i l m : Nat} {ρ : Rol} {S : BS} {u : Value} (h : Bk w X ρ S) (hlo : S.o2 = i) (hu : S.u2[i]? = some u) (hL : S.L2[i]? = some (List.replicate l (mvT m))) : ∃ ρ', Bk w X ρ' { S with o2 := i + 1 } ∧ Xs w X ρ' 1 mvT m l u := by
  obtain ⟨q1, q2, q3⟩ := h.f2.each i u _ (by omega) hu hL
  obtain ⟨ρ', hρ⟩ : ∃ ρ' : Rol, ∀ k, ρ' k = if u.ownBlock = some k then some (.mk 1 m l) else ρ k := ⟨fun k => if u.ownBlock = some k then some (.mk 1 m l) else ρ k, fun k => rfl⟩
  have hext : ∀ k r, ρ k = some r → r ≠ .ls 2 i → ρ' k = some r := fun k r hr hne => by
    rw [hρ, if_neg fun e => by rw [q3 k e] at hr; exact hne (Option.some.inj hr).symm]; exact hr
  have hfam : ∀ (g : Nat) (mv' : Nat → Value) (v : Value) (GS : List Value), (g = 1 → mv' = mvT) → Fam w X ρ g mv' v GS → Fam w X ρ' g mv' v GS := fun g mv' v GS hg hF => by
    refine ⟨hF.own, fun k hk => hext k _ (hF.rl k hk) (fun e => by cases e), fun k i2 l2 hm j hj => ?_, fun n s hs => ?_⟩
    · rw [hρ] at hm
      split at hm
      · rename_i e
        injection hm with hm
        injection hm with e0 e1 e2
        subst e1 e2
        rw [hg e0.symm]
        exact own_cell q1 e (by rw [List.getElem?_replicate, if_pos hj])
      · exact hF.mkd k i2 l2 hm j hj
    · rcases hF.ent n s hs with e | ⟨g', m', c, l', e1, e2, e3, e4⟩
      · exact .inl e
      · exact .inr ⟨g', m', c, l', e1, e2, e3, hext g' _ e4 (fun e => by cases e)⟩
  have hk : ∀ (p : Nat), p ≠ 2 → ∀ (k : Nat) (r : Ro), ρ k = some r → r.lst p → w.heap[k]? = w.heap[k]? ∧ ρ' k = some r := fun p hp k r hr hf => ⟨rfl, hext k r hr fun e => by subst e; exact hp (Eq.symm hf)⟩
  refine ⟨ρ', ⟨h.row, hext X _ h.rX (fun e => by cases e), fun k r hr => ?_, hfam 1 mvT _ _ (fun e => rfl) h.T, ⟨h.f2.own, fun k hk => hext k _ (h.f2.rl k hk) (fun e => by cases e), h.f2.len, fun k u' M h0 h1 h2 => ?_⟩, h.f3.keep (Nat.le_refl _) (hk 3 (by decide))⟩, ⟨q1, fun g hg => by rw [hρ, if_pos hg]⟩⟩
  · rw [hρ] at hr
    split at hr
    · rename_i e
      exact ⟨q1.ge k e, q1.lt k e⟩
    · exact h.lt k r hr
  · have h0' : i + 1 ≤ k := h0
    obtain ⟨a1, a2, a3⟩ := h.f2.each k u' M (by omega) h1 h2
    exact ⟨a1, a2, fun g hg => hext g _ (a3 g hg) fun e => by injection e with _ e; omega⟩
end Wb
end Go.Proofs.YtfddkmkibfmmgaaDoor

namespace Go.Proofs.YtfddkmkibfmmgaaDoor
open Go.RowKit
/-- a tree and the document's: where they lie, their height, leaves, blocks; O: blocks of trees that were left behind, C what they hold -/
structure TS where
  (q y h : Nat)
  (L : List (List UInt8))
  (F G : Nat → Prop)
  (O : Nat → Prop)
  (C : Nat → Option Obj)
def ptr (q : Nat) : Value := .pointer (some ⟨q, 0, none⟩)
/-- the world: its book, two trees, two of the document's -/
structure Tw (w : World) (X : Nat) (ρ : Wb.Rol) (S : Wb.BS) (T : Bool → TS) : Prop where
  bk : Wb.Bk w X ρ S
  p0 : S.p0 = ptr (T false).q
  p1 : S.p1 = ptr (T true).q
  x0 : S.x0 = ptr (T false).y
  x1 : S.x1 = ptr (T true).y
  t : ∀ b, TrL w (T b).q (T b).h (T b).L (T b).F
  r : ∀ b, RtL w (T b).y (T b).h (T b).L (T b).G
  fr : ∀ b k, (T b).F k → ρ k = none
  gr : ∀ b k, (T b).G k → ρ k = none
  fg : ∀ b c k, (T b).F k → ¬ (T c).G k
  ff : ∀ b c k, b ≠ c → (T b).F k → ¬ (T c).F k
  gg : ∀ b c k, b ≠ c → (T b).G k → ¬ (T c).G k
  o : ∀ k, (T false).O k → ρ k = none ∧ k < w.heap.size ∧ w.heap[k]? = (T false).C k ∧ ∀ c, ¬ (T c).F k ∧ ¬ (T c).G k
theorem Tw.below {w w' : World} {X : Nat} {ρ : Wb.Rol} {S : Wb.BS} {T : Bool → TS} (h : Tw w X ρ S T) (hb : Below w.heap.size w w') : Tw w' X ρ S T :=
  ⟨h.bk.below hb, h.p0, h.p1, h.x0, h.x1, fun b => (h.t b).below hb, fun b => (h.r b).below hb, h.fr, h.gr, h.fg, h.ff, h.gg, fun k hk => ⟨(h.o k hk).1, Nat.lt_of_lt_of_le (h.o k hk).2.1 hb.size, (hb.block k (h.o k hk).2.1).trans (h.o k hk).2.2.1, (h.o k hk).2.2.2⟩⟩
theorem Tw.lt {w : World} {X : Nat} {ρ : Wb.Rol} {S : Wb.BS} {T : Bool → TS} (h : Tw w X ρ S T) : X < w.heap.size := lt_of_heap h.bk.row
/-- the k of a tree -/
def kN (b : Bool) : Nat := if b then 1 else 0
theorem Tw.ct {w : World} {X : Nat} {ρ : Wb.Rol} {S : Wb.BS} {T : Bool → TS} (h : Tw w X ρ S T) (b : Bool) : w.cell? ⟨X, kN b, none⟩ = some (ptr (T b).q) := by
  rw [cell_of_row _ _ _ _ _ _ h.bk.row]
  cases b
  · rw [← h.p0]; rfl
  · rw [← h.p1]; rfl
theorem Tw.cx {w : World} {X : Nat} {ρ : Wb.Rol} {S : Wb.BS} {T : Bool → TS} (h : Tw w X ρ S T) (b : Bool) : w.cell? ⟨X, 2 + kN b, none⟩ = some (ptr (T b).y) := by
  rw [cell_of_row _ _ _ _ _ _ h.bk.row]
  cases b
  · rw [← h.x0]; rfl
  · rw [← h.x1]; rfl
set_option maxRecDepth 100000 in
set_option maxHeartbeats 1000000 in
theorem wroot_any {w : World} {X : Nat} {ρ : Wb.Rol} {S : Wb.BS} {T : Bool → TS} (h : Tw w X ρ S T) (b : Bool) (n : Int) (Z : Tb w) :
    Calls Tryd.prog 53 #[ptr X, .int .i64 (kN b : Int), .int .i64 n] w fun r w' => r = .returned (.bool true) ∧ Below w.heap.size w w' := by
  have hX := h.lt
  obtain ⟨x, z, hx⟩ : ∃ x z, Hid (tPartO (T b).L 0 n = (x, z)) := ⟨_, _, rfl⟩
  have i1 := tRoot_any (h.t b) n Z hx
  have i2 := fun w' (bb : Below w.heap.size w w') => rRoot7_any ((h.r b).below bb) n hx
  have c0 := h.ct b
  have c1 := h.cx b
  unfold ptr at c0 c1 ⊢
  generalize (T b).q = q at *
  generalize (T b).y = y at *
  rw [show sv x = Value.string ⟨x.toArray⟩ from rfl] at i1 i2
  clear h hx Z
  cases b
  · rw [show kN false = 0 from rfl] at *
    have c1' : w.cell? ⟨X, 2, none⟩ = some (.pointer (some ⟨y, 0, none⟩)) := c1
    clear c1
    go_enter Tryd.func53, Tryd.ntmps53
    go_wp2_with (go_at_call 14; fail)
    refine i1.mono ?_
    rintro r w1 ⟨rfl, hw1⟩
    have d1 := (hw1.cell (p := ⟨X, 2, none⟩) hX).trans c1'
    go_wp2_with (go_at_call 75; refine (i2 _ hw1).mono ?_; rintro r w2 ⟨rfl, hw2⟩)
    go_ret
    exact ⟨rfl, hw1.trans (hw2.mono hw1.size)⟩
  · rw [show kN true = 1 from rfl] at *
    have c1' : w.cell? ⟨X, 3, none⟩ = some (.pointer (some ⟨y, 0, none⟩)) := c1
    clear c1
    go_enter Tryd.func53, Tryd.ntmps53
    go_wp2_with (go_at_call 14; fail)
    refine i1.mono ?_
    rintro r w1 ⟨rfl, hw1⟩
    have d1 := (hw1.cell (p := ⟨X, 3, none⟩) hX).trans c1'
    go_wp2_with (go_at_call 75; refine (i2 _ hw1).mono ?_; rintro r w2 ⟨rfl, hw2⟩)
    go_ret
    exact ⟨rfl, hw1.trans (hw2.mono hw1.size)⟩
end Go.Proofs.YtfddkmkibfmmgaaDoor

namespace Go.Proofs.YtfddkmkibfmmgaaDoor
open Go.RowKit
theorem s3k_below {X k g : Nat} {x y z : Value} {w w' : World} (h : w.cell? ⟨X, k, none⟩ = some x ∧ w.cell? ⟨g, 0, none⟩ = some y ∧ w.cell? ⟨g, 1, none⟩ = some z) (hq : X < w.heap.size) (hg : g < w.heap.size) (hb : Below w.heap.size w w') : w'.cell? ⟨X, k, none⟩ = some x ∧ w'.cell? ⟨g, 0, none⟩ = some y ∧ w'.cell? ⟨g, 1, none⟩ = some z :=
  ⟨(hb.cell (p := ⟨X, k, none⟩) hq).trans h.1, (hb.cell (p := ⟨g, 0, none⟩) hg).trans h.2.1, (hb.cell (p := ⟨g, 1, none⟩) hg).trans h.2.2⟩
set_option maxRecDepth 100000 in
set_option maxHeartbeats 1000000 in
theorem wpart_any {w : World} {X : Nat} {ρ : Wb.Rol} {S : Wb.BS} {T : Bool → TS} (h : Tw w X ρ S T) (b : Bool) (s e : Int) (Z : Tb w) :
    Calls Tryd.prog 52 #[ptr X, .int .i64 (kN b : Int), .agg #[.int .i64 s, .int .i64 e]] w fun r w' => r = .returned (.bool true) ∧ Below w.heap.size w w' := by
  have hX := h.lt
  obtain ⟨x, z, hx⟩ : ∃ x z, Hid (tPartO (T b).L s e = (x, z)) := ⟨_, _, rfl⟩
  obtain ⟨w1, hw1⟩ : ∃ w1, w.alloc (.cells #[Value.int .i64 s, .int .i64 e] 47) = w1 := ⟨_, rfl⟩
  have b1 := (Below.refl w.heap.size w).alloc (Nat.le_refl _) (.cells #[Value.int .i64 s, .int .i64 e] 47)
  have r1 := heap_alloc_new w (.cells #[Value.int .i64 s, .int .i64 e] 47)
  rw [hw1] at b1 r1
  have s0 : w1.cell? ⟨w.heap.size, 0, none⟩ = some (.int .i64 s) := by rw [cell_of_row _ _ _ _ _ _ r1]; rfl
  have s1 : w1.cell? ⟨w.heap.size, 1, none⟩ = some (.int .i64 e) := by rw [cell_of_row _ _ _ _ _ _ r1]; rfl
  have hlt : w.heap.size < w1.heap.size := lt_of_heap r1
  have i1 := tPart_any ((h.t b).below b1.drew) s e (Z.below b1.drew Z.lt) hx
  have i2 := fun w' (bb : Below w.heap.size w w') => rPart7_any ((h.r b).below bb) s e hx
  have B1 := hid b1
  have c0 := h.ct b
  have c1 := h.cx b
  unfold ptr at c0 c1 ⊢
  generalize (T b).q = q at *
  generalize (T b).y = y at *
  rw [show sv x = Value.string ⟨x.toArray⟩ from rfl] at i1 i2
  clear h hx Z r1 b1
  cases b
  · rw [show kN false = 0 from rfl] at *
    have c1' : w.cell? ⟨X, 2, none⟩ = some (.pointer (some ⟨y, 0, none⟩)) := c1
    clear c1
    have S0 : w1.cell? ⟨X, 0, none⟩ = some (.pointer (some ⟨q, 0, none⟩)) ∧ w1.cell? ⟨w.heap.size, 0, none⟩ = some (.int .i64 s) ∧ w1.cell? ⟨w.heap.size, 1, none⟩ = some (.int .i64 e) := ⟨(B1.out.cell (p := ⟨X, 0, none⟩) hX).trans c0, s0, s1⟩
    go_enter Tryd.func52, Tryd.ntmps52
    go_wp2
    go_region_held3 (fun w' => w'.cell? ⟨X, 0, none⟩ = some (.pointer (some ⟨q, 0, none⟩)) ∧ w'.cell? ⟨w.heap.size, 0, none⟩ = some (.int .i64 s) ∧ w'.cell? ⟨w.heap.size, 1, none⟩ = some (.int .i64 e)) (first | exact S0 | exact S1) ((go_at_call 23; (with_reducible refine i1.mono ?_); rintro r w2 ⟨rfl, hw2⟩; have S1 := s3k_below (w := w1.drew) S0 (Nat.lt_of_lt_of_le hX B1.out.size) hlt hw2))
    have B2 : Below w1.heap.size w1 w2 := (Below.refl _ _).drew.trans hw2
    have d1 := ((B1.out.trans (B2.mono B1.out.size)).cell (p := ⟨X, 2, none⟩) hX).trans c1'
    have S2 : w2.cell? ⟨X, 2, none⟩ = some (.pointer (some ⟨y, 0, none⟩)) ∧ w2.cell? ⟨w.heap.size, 0, none⟩ = some (.int .i64 s) ∧ w2.cell? ⟨w.heap.size, 1, none⟩ = some (.int .i64 e) := ⟨d1, S1.2.1, S1.2.2⟩
    have B3 : Below w.heap.size w w2 := B1.out.trans (B2.mono B1.out.size)
    have i3 := i2 w2.drew B3.drew
    have hlt2 : w.heap.size < w2.heap.size := Nat.lt_of_lt_of_le hlt B2.size
    clear i1 i2 S0 S1 d1 c1' c0 hw2 s0 s1
    go_wp2
    go_region_held3 (fun w' => w'.cell? ⟨X, 2, none⟩ = some (.pointer (some ⟨y, 0, none⟩)) ∧ w'.cell? ⟨w.heap.size, 0, none⟩ = some (.int .i64 s) ∧ w'.cell? ⟨w.heap.size, 1, none⟩ = some (.int .i64 e)) (first | exact S2 | exact S3) ((go_at_call 74; (with_reducible refine i3.mono ?_); rintro r w4 ⟨rfl, hw4⟩; have S3 := s3k_below (w := w2.drew) S2 (Nat.lt_of_lt_of_le hX B3.size) hlt2 hw4))
    go_wp2
    go_ret
    exact ⟨rfl, B3.trans (((Below.refl w2.heap.size w2).drew.trans hw4).mono B3.size)⟩
  · rw [show kN true = 1 from rfl] at *
    have c1' : w.cell? ⟨X, 3, none⟩ = some (.pointer (some ⟨y, 0, none⟩)) := c1
    clear c1
    have S0 : w1.cell? ⟨X, 1, none⟩ = some (.pointer (some ⟨q, 0, none⟩)) ∧ w1.cell? ⟨w.heap.size, 0, none⟩ = some (.int .i64 s) ∧ w1.cell? ⟨w.heap.size, 1, none⟩ = some (.int .i64 e) := ⟨(B1.out.cell (p := ⟨X, 1, none⟩) hX).trans c0, s0, s1⟩
    go_enter Tryd.func52, Tryd.ntmps52
    go_wp2
    go_region_held3 (fun w' => w'.cell? ⟨X, 1, none⟩ = some (.pointer (some ⟨q, 0, none⟩)) ∧ w'.cell? ⟨w.heap.size, 0, none⟩ = some (.int .i64 s) ∧ w'.cell? ⟨w.heap.size, 1, none⟩ = some (.int .i64 e)) (first | exact S0 | exact S1) ((go_at_call 23; (with_reducible refine i1.mono ?_); rintro r w2 ⟨rfl, hw2⟩; have S1 := s3k_below (w := w1.drew) S0 (Nat.lt_of_lt_of_le hX B1.out.size) hlt hw2))
    have B2 : Below w1.heap.size w1 w2 := (Below.refl _ _).drew.trans hw2
    have d1 := ((B1.out.trans (B2.mono B1.out.size)).cell (p := ⟨X, 3, none⟩) hX).trans c1'
    have S2 : w2.cell? ⟨X, 3, none⟩ = some (.pointer (some ⟨y, 0, none⟩)) ∧ w2.cell? ⟨w.heap.size, 0, none⟩ = some (.int .i64 s) ∧ w2.cell? ⟨w.heap.size, 1, none⟩ = some (.int .i64 e) := ⟨d1, S1.2.1, S1.2.2⟩
    have B3 : Below w.heap.size w w2 := B1.out.trans (B2.mono B1.out.size)
    have i3 := i2 w2.drew B3.drew
    have hlt2 : w.heap.size < w2.heap.size := Nat.lt_of_lt_of_le hlt B2.size
    clear i1 i2 S0 S1 d1 c1' c0 hw2 s0 s1
    go_wp2
    go_region_held3 (fun w' => w'.cell? ⟨X, 3, none⟩ = some (.pointer (some ⟨y, 0, none⟩)) ∧ w'.cell? ⟨w.heap.size, 0, none⟩ = some (.int .i64 s) ∧ w'.cell? ⟨w.heap.size, 1, none⟩ = some (.int .i64 e)) (first | exact S2 | exact S3) ((go_at_call 74; (with_reducible refine i3.mono ?_); rintro r w4 ⟨rfl, hw4⟩; have S3 := s3k_below (w := w2.drew) S2 (Nat.lt_of_lt_of_le hX B3.size) hlt2 hw4))
    go_wp2
    go_ret
    exact ⟨rfl, B3.trans (((Below.refl w2.heap.size w2).drew.trans hw4).mono B3.size)⟩
end Go.Proofs.YtfddkmkibfmmgaaDoor

namespace Go.Proofs.YtfddkmkibfmmgaaDoor
open Go.RowKit
/-- how many lists the book has, at most -/
structure Ct (S : Wb.BS) (n : Nat) : Prop where
  a : ∃ a, S.GT.length = 6 * a ∧ a + S.L2.length ≤ n
  e : S.L2 = S.L3
  o : S.o2 = 0
  tx : ∀ L ∈ S.L2, ∃ l : List (List UInt8), L = svs l
/-- nothing else has the list's block -/
def Fre (ρ : Wb.Rol) (T : Bool → TS) (x : Value) : Prop := ∀ g, x.ownBlock = some g → (ρ g = none ∧ ∀ b, ¬ (T b).F g ∧ ¬ (T b).G g) ∧ ¬ (T false).O g
theorem Tw.turn {w w' : World} {X : Nat} {ρ ρ' : Wb.Rol} {S S' : Wb.BS} {T : Bool → TS} {x : Value} (h : Tw w X ρ S T) (hx : Fre ρ T x) (hB : Wb.Bk w' X ρ' S') (hK : Keep (Wb.KS ρ x) w w') (hN : Wb.Nw w ρ x ρ')
    (e0 : S'.p0 = S.p0) (e1 : S'.p1 = S.p1) (e2 : S'.x0 = S.x0) (e3 : S'.x1 = S.x1) : Tw w' X ρ' S' T := by
  have hF : ∀ b k, (T b).F k → ¬ Wb.KS ρ x k := fun b k hk e => by
    rcases e with ⟨r, e⟩ | e
    · rw [h.fr b k hk] at e; cases e
    · exact ((hx k e).1.2 b).1 hk
  have hG : ∀ b k, (T b).G k → ¬ Wb.KS ρ x k := fun b k hk e => by
    rcases e with ⟨r, e⟩ | e
    · rw [h.gr b k hk] at e; cases e
    · exact ((hx k e).1.2 b).2 hk
  refine ⟨hB, e0.trans h.p0, e1.trans h.p1, e2.trans h.x0, e3.trans h.x1, fun b => (h.t b).keep hK (hF b), fun b => (h.r b).keep hK (hG b), fun b k hk => ?_, fun b k hk => ?_, h.fg, h.ff, h.gg, fun k hk => ?_⟩
  · cases hr : ρ' k with
    | none => rfl
    | some r =>
      rcases hN k r hr with e | e
      · exact absurd e (hF b k hk)
      · have := (h.t b).lt k hk; omega
  · cases hr : ρ' k with
    | none => rfl
    | some r =>
      rcases hN k r hr with e | e
      · exact absurd e (hG b k hk)
      · have := (h.r b).lt k hk; omega
  · obtain ⟨o1, o2, o3, o4⟩ := h.o k hk
    have hO : ¬ Wb.KS ρ x k := fun e => by
      rcases e with ⟨r, e⟩ | e
      · rw [o1] at e; cases e
      · exact (hx k e).2 hk
    refine ⟨?_, Nat.lt_of_lt_of_le o2 hK.size, (hK.block k o2 hO).trans o3, o4⟩
    cases hr : ρ' k with
    | none => rfl
    | some r =>
      rcases hN k r hr with e | e
      · exact absurd e hO
      · omega
/-- a list came out, and is the book's -/
theorem wowned_any {w : World} {X : Nat} {ρ : Wb.Rol} {S : Wb.BS} {T : Bool → TS} (h : Tw w X ρ S T) {n : Nat} (hc : Ct S n) (hn : n ≤ 240) {b2 : Nat} {x : Value} {l : List (List UInt8)} (hx : Own w b2 x (svs l)) (hb2 : X ≤ b2) (hl : l.length ≤ 1100000) (hf : Fre ρ T x) :
    Calls Tryd.prog 73 #[ptr X, x] w fun r w' => r = .returned (.tuple #[]) ∧ ∃ ρ' S', Tw w' X ρ' S' T ∧ Ct S' (n + 1) ∧ S'.kp = S.kp ∧ Keep (Wb.KS ρ x) w w' ∧ Wb.Nw w ρ x ρ' ∧ Below X w w' := by
  have hbl : ∀ w', Keep (Wb.KS ρ x) w w' → Below X w w' := fun w' k => ⟨k.os, k.tape, k.output, k.size, fun j hj => k.block j (by have := h.lt; omega) fun e => by
    rcases e with ⟨r, e⟩ | e
    · have := (h.bk.lt j r e).1; omega
    · have := hx.ge j e; omega⟩
  obtain ⟨a, ha, han⟩ := hc.a
  have hl' : (svs l).length ≤ 1100000 := by rw [svs_length]; exact hl
  cases hk : S.kp with
  | false =>
    refine (Wb.owned_take X b2 a ρ S x (svs l) w h.bk hx hb2 hl' (fun g hg => (hf g hg).1.1) ha (by omega) hk).mono ?_
    rintro r w' ⟨rfl, ρ', v', G', hB, hG, hK, hN⟩
    exact ⟨rfl, ρ', _, h.turn hf hB hK hN rfl rfl rfl rfl, ⟨⟨a + 1, hG, (by show a + 1 + S.L2.length ≤ n + 1; omega)⟩, hc.e, hc.o, hc.tx⟩, hk, hK, hN, hbl _ hK⟩
  | true =>
    have l2 := h.bk.f2.len
    have l3 := h.bk.f3.len
    rw [← hc.e] at l3
    refine (Wb.owned_free X b2 ρ S x (svs l) w h.bk hx hb2 hl' (fun u hu => svs_one hu) (fun g hg => (hf g hg).1.1) hc.o (by omega) (by omega) hk).mono ?_
    rintro r w' ⟨rfl, ρ', v', u', v'', u'', hB, hK, hN⟩
    refine ⟨rfl, ρ', _, h.turn hf hB hK hN rfl rfl rfl rfl, ⟨⟨a, ha, (by show a + (S.L2 ++ [svs l]).length ≤ n + 1; rw [List.length_append]; simp; omega)⟩, (by show S.L2 ++ [svs l] = S.L3 ++ [svs l]; rw [hc.e]), hc.o, fun L hL => ?_⟩, hk, hK, hN, hbl _ hK⟩
    rcases List.mem_append.1 hL with e | e
    · exact hc.tx L e
    · exact ⟨l, List.mem_singleton.1 e⟩
end Go.Proofs.YtfddkmkibfmmgaaDoor
