import Derived.Test.YtfddkmkibfmmgaaDoorCTL59
import Derived.Test.YtfddkmkibfmmgaaDoorCTL28
namespace Go.Proofs.YtfddkmkibfmmgaaDoor
open Go.RowKit
/-- the other tree becomes a clone -/
def clT (w : World) (T : Bool → TS) (b : Bool) (q y : Nat) (F G : Nat → Prop) : Bool → TS := upT T (!b) ⟨q, y, (T b).h, (T b).L, F, G, fun k => (T (!b)).O k ∨ (T (!b)).F k, fun k => w.heap[k]?⟩
theorem clT_b (w : World) (T : Bool → TS) (b : Bool) (q y : Nat) (F G : Nat → Prop) : clT w T b q y F G b = T b := upT_other (by cases b <;> simp)
theorem clT_n (w : World) (T : Bool → TS) (b : Bool) (q y : Nat) (F G : Nat → Prop) : clT w T b q y F G (!b) = ⟨q, y, (T b).h, (T b).L, F, G, fun k => (T (!b)).O k ∨ (T (!b)).F k, fun k => w.heap[k]?⟩ := upT_same _ _ _
theorem b_or (b c : Bool) : c = b ∨ c = !b := by cases b <;> cases c <;> simp
theorem Tw.cloned {w w4 : World} {X : Nat} {ρ : Wb.Rol} {S S' : Wb.BS} {T : Bool → TS} (h : Tw w X ρ S T) (b : Bool) {q y : Nat} {F G : Nat → Prop} (K : Keep (fun k => k = X) w w4) (hB : Wb.Bk w4 X ρ S')
    (t : TrL w4 q (T b).h (T b).L F) (r : RtL w4 y (T b).h (T b).L G) (nF : ∀ k, F k → w.heap.size ≤ k) (nG : ∀ k, G k → w.heap.size ≤ k) (fg : ∀ k, F k → ¬ G k)
    (p0 : S'.p0 = ptr (clT w T b q y F G false).q) (p1 : S'.p1 = ptr (clT w T b q y F G true).q) (x0 : S'.x0 = ptr (clT w T b q y F G false).y) (x1 : S'.x1 = ptr (clT w T b q y F G true).y) :
    Tw w4 X ρ S' (clT w T b q y F G) ∧ Goes w X T w4 (clT w T b q y F G) := by
  have rn : ∀ k, w.heap.size ≤ k → ρ k = none := fun k hk => by
    cases hr : ρ k with
    | none => rfl
    | some r => have := (h.bk.lt k r hr).2; omega
  have nX := h.noX
  have fX : ∀ c k, (T c).F k → ¬ k = X := fun c k hk e => (nX c).1 (e ▸ hk)
  have gX : ∀ c k, (T c).G k → ¬ k = X := fun c k hk e => (nX c).2 (e ▸ hk)
  have oX : ∀ k, (T false).O k → ¬ k = X := fun k hk e => by have := (h.o k hk).1; rw [e, h.bk.rX] at this; cases this
  have lF : ∀ c k, (T c).F k → k < w.heap.size := fun c k hk => (h.t c).lt k hk
  have lG : ∀ c k, (T c).G k → k < w.heap.size := fun c k hk => (h.r c).lt k hk
  have A : Tw w4 X ρ S' (clT w T b q y F G) := by
    refine ⟨hB, p0, p1, x0, x1, fun c => ?_, fun c => ?_, fun c k hk => ?_, fun c k hk => ?_, fun c d k hk e => ?_, fun c d k hcd hk e => ?_, fun c d k hcd hk e => ?_, fun k hk => ?_⟩
    · rcases b_or b c with e | e <;> subst e
      · rw [clT_b]; exact (h.t c).keep K (fX c)
      · rw [clT_n]; exact t
    · rcases b_or b c with e | e <;> subst e
      · rw [clT_b]; exact (h.r c).keep K (gX c)
      · rw [clT_n]; exact r
    · rcases b_or b c with e | e <;> subst e
      · rw [clT_b] at hk; exact h.fr c k hk
      · rw [clT_n] at hk; exact rn k (nF k hk)
    · rcases b_or b c with e | e <;> subst e
      · rw [clT_b] at hk; exact h.gr c k hk
      · rw [clT_n] at hk; exact rn k (nG k hk)
    · rcases b_or b c with e1 | e1 <;> rcases b_or b d with e2 | e2 <;> rw [e1] at hk <;> rw [e2] at e
      · rw [clT_b] at hk e; exact h.fg b b k hk e
      · rw [clT_b] at hk; rw [clT_n] at e; have := lF b k hk; have := nG k e; omega
      · rw [clT_n] at hk; rw [clT_b] at e; have := lG b k e; have := nF k hk; omega
      · rw [clT_n] at hk e; exact fg k hk e
    · rcases b_or b c with e1 | e1 <;> rcases b_or b d with e2 | e2
      · exact hcd (e1.trans e2.symm)
      · rw [e1, clT_b] at hk; rw [e2, clT_n] at e; have := lF b k hk; have := nF k e; omega
      · rw [e1, clT_n] at hk; rw [e2, clT_b] at e; have := lF b k e; have := nF k hk; omega
      · exact hcd (e1.trans e2.symm)
    · rcases b_or b c with e1 | e1 <;> rcases b_or b d with e2 | e2
      · exact hcd (e1.trans e2.symm)
      · rw [e1, clT_b] at hk; rw [e2, clT_n] at e; have := lG b k hk; have := nG k e; omega
      · rw [e1, clT_n] at hk; rw [e2, clT_b] at e; have := lG b k e; have := nG k hk; omega
      · exact hcd (e1.trans e2.symm)
    · have old : ∀ k, k < w.heap.size → (¬ (T b).F k ∧ ¬ (T b).G k) → ∀ c, ¬ (clT w T b q y F G c).F k ∧ ¬ (clT w T b q y F G c).G k := fun k hk hn c => by
        rcases b_or b c with e | e
        · rw [e, clT_b]; exact hn
        · rw [e, clT_n]; exact ⟨fun e => by have := nF k e; omega, fun e => by have := nG k e; omega⟩
      cases b with
      | false =>
        rw [show clT w T false q y F G false = T false from clT_b _ _ _ _ _ _ _] at hk ⊢
        obtain ⟨o1, o2, o3, o4⟩ := h.o k hk
        exact ⟨o1, Nat.lt_of_lt_of_le o2 K.size, (K.block k o2 (oX k hk)).trans o3, old k o2 (o4 false)⟩
      | true =>
        have ec := clT_n w T true q y F G
        rw [show (!true) = false from rfl] at ec
        rw [ec] at hk
        rw [show (clT w T true q y F G false).C k = w.heap[k]? from by rw [ec]]
        rcases hk with hk | hk
        · obtain ⟨o1, o2, o3, o4⟩ := h.o k hk
          exact ⟨o1, Nat.lt_of_lt_of_le o2 K.size, K.block k o2 (oX k hk), old k o2 (o4 true)⟩
        · exact ⟨h.fr false k hk, Nat.lt_of_lt_of_le (lF false k hk) K.size, K.block k (lF false k hk) (fX false k hk), old k (lF false k hk) ⟨h.ff false true k (by simp) hk, h.fg false true k hk⟩⟩
  have hX := h.lt
  refine ⟨A, fun B hB' hF hG => ⟨⟨K.os, K.tape, K.output, K.size, fun k hk => K.block k (by omega) (by omega)⟩, fun c k hk => ?_, fun c k hk => ?_⟩, fun q0 hq => ?_⟩
  · rcases b_or b c with e | e <;> subst e
    · rw [clT_b] at hk; exact hF c k hk
    · rw [clT_n] at hk; have := nF k hk; omega
  · rcases b_or b c with e | e <;> subst e
    · rw [clT_b] at hk; exact hG c k hk
    · rw [clT_n] at hk; have := nG k hk; omega
  · obtain ⟨h0, L0, F0, t0, hc⟩ := hq
    cases b with
    | false =>
      have ec := clT_b w T false q y F G
      rcases hc with ⟨rfl, rfl, rfl, rfl⟩ | hc
      · exact ⟨_, _, _, t0.keep K (fX false), .inl ⟨by rw [ec], by rw [ec], by rw [ec], by rw [ec]⟩⟩
      · exact ⟨_, _, _, t0.keep K fun k hk => oX k (hc k hk), .inr fun k hk => by rw [ec]; exact hc k hk⟩
    | true =>
      have ec := clT_n w T true q y F G
      rw [show (!true) = false from rfl] at ec
      rcases hc with ⟨rfl, rfl, rfl, rfl⟩ | hc
      · exact ⟨_, _, _, t0.keep K (fX false), .inr fun k hk => by rw [ec]; exact .inr hk⟩
      · exact ⟨_, _, _, t0.keep K fun k hk => oX k (hc k hk), .inr fun k hk => by rw [ec]; exact .inl (hc k hk)⟩
end Go.Proofs.YtfddkmkibfmmgaaDoor

namespace Go.Proofs.YtfddkmkibfmmgaaDoor
open Go.RowKit
theorem Wb.Bk.set_p0 {w : World} {X : Nat} {ρ : Wb.Rol} {S : Wb.BS} (h : Wb.Bk w X ρ S) (v : Value) : Wb.Bk (w.setCell ⟨X, 0, none⟩ v) X ρ { S with p0 := v } := ⟨heap_setCell_same w X 0 _ _ _ h.row, h.rX, h.lt.setX _ _, h.T.setX h.rX _ _, h.f2.setX h.rX _ _, h.f3.setX h.rX _ _⟩
theorem Wb.Bk.set_p1 {w : World} {X : Nat} {ρ : Wb.Rol} {S : Wb.BS} (h : Wb.Bk w X ρ S) (v : Value) : Wb.Bk (w.setCell ⟨X, 1, none⟩ v) X ρ { S with p1 := v } := ⟨heap_setCell_same w X 1 _ _ _ h.row, h.rX, h.lt.setX _ _, h.T.setX h.rX _ _, h.f2.setX h.rX _ _, h.f3.setX h.rX _ _⟩
theorem Wb.Bk.set_x0 {w : World} {X : Nat} {ρ : Wb.Rol} {S : Wb.BS} (h : Wb.Bk w X ρ S) (v : Value) : Wb.Bk (w.setCell ⟨X, 2, none⟩ v) X ρ { S with x0 := v } := ⟨heap_setCell_same w X 2 _ _ _ h.row, h.rX, h.lt.setX _ _, h.T.setX h.rX _ _, h.f2.setX h.rX _ _, h.f3.setX h.rX _ _⟩
theorem Wb.Bk.set_x1 {w : World} {X : Nat} {ρ : Wb.Rol} {S : Wb.BS} (h : Wb.Bk w X ρ S) (v : Value) : Wb.Bk (w.setCell ⟨X, 3, none⟩ v) X ρ { S with x1 := v } := ⟨heap_setCell_same w X 3 _ _ _ h.row, h.rX, h.lt.setX _ _, h.T.setX h.rX _ _, h.f2.setX h.rX _ _, h.f3.setX h.rX _ _⟩
/-- a clone came out -/
def Cl1 (w : World) (T : Bool → TS) (b : Bool) (q : Nat) (w1 : World) : Prop := ∃ F, TrL w1 q (T b).h (T b).L F ∧ (∀ k, F k → w.heap.size ≤ k) ∧ Below w.heap.size w w1
def Cl2 (w : World) (T : Bool → TS) (b : Bool) (y : Nat) (w1 : World) : Prop := ∃ G, RtL w1 y (T b).h (T b).L G ∧ (∀ k, G k → w.heap.size ≤ k) ∧ Below w.heap.size w w1
theorem clone_fst {w : World} {X : Nat} {ρ : Wb.Rol} {S : Wb.BS} {T : Bool → TS} (h : Tw w X ρ S T) (b : Bool) (hT : 4 ≤ w.heap.size) :
    Calls Tryd.prog 15 #[.pointer (some ⟨(T b).q, 0, none⟩)] w.drew fun r w' => ∃ q, r = .returned (.pointer (some ⟨q, 0, none⟩)) ∧ Hid (Cl1 w T b q w') := by
  refine (tClone_any ((h.t b).below (Below.refl _ _).drew) hT).mono ?_
  rintro r w' ⟨q, F, rfl, h1, h2, h3⟩
  exact ⟨q, rfl, F, h1, h2, (Below.refl _ _).drew.trans h3⟩
theorem clone_mid_false {w w1 : World} {X : Nat} {ρ : Wb.Rol} {S : Wb.BS} {T : Bool → TS} (h : Tw w X ρ S T) {q : Nat} (H : Cl1 w T false q w1) :
    (w1.cell? ⟨X, 0, none⟩ = some (.pointer (some ⟨(T false).q, 0, none⟩)) ∧ w1.cell? ⟨X, 1, none⟩ = some (.pointer (some ⟨(T true).q, 0, none⟩)) ∧ w1.frozen? ⟨X, 1, none⟩ = false) ∧
    (w1.setCell ⟨X, 1, none⟩ (.pointer (some ⟨q, 0, none⟩))).cell? ⟨X, 0, none⟩ = some (.pointer (some ⟨(T false).q, 0, none⟩)) ∧ (w1.setCell ⟨X, 1, none⟩ (.pointer (some ⟨q, 0, none⟩))).cell? ⟨X, 2, none⟩ = some (.pointer (some ⟨(T false).y, 0, none⟩)) := by
  obtain ⟨F, h1, h2, h3⟩ := H
  have T1 := h.below h3
  have R2 := (T1.bk.set_p1 (.pointer (some ⟨q, 0, none⟩))).row
  refine ⟨⟨T1.ct false, T1.ct true, frozen_of_row _ _ _ _ _ T1.bk.row⟩, ?_, ?_⟩
  · rw [cell_of_row _ _ _ _ _ _ R2]
    show some S.p0 = _
    rw [T1.p0]; rfl
  · rw [cell_of_row _ _ _ _ _ _ R2]
    show some S.x0 = _
    rw [T1.x0]; rfl
theorem clone_snd_false {w w1 : World} {X : Nat} {ρ : Wb.Rol} {S : Wb.BS} {T : Bool → TS} (h : Tw w X ρ S T) {q : Nat} (H : Cl1 w T false q w1) (hT : 4 ≤ w.heap.size) :
    Calls Tryd.prog 55 #[.pointer (some ⟨(T false).y, 0, none⟩)] (w1.setCell ⟨X, 1, none⟩ (.pointer (some ⟨q, 0, none⟩))).drew fun r w' => ∃ y, r = .returned (.pointer (some ⟨y, 0, none⟩)) ∧ Hid (Cl2 (w1.setCell ⟨X, 1, none⟩ (.pointer (some ⟨q, 0, none⟩))) T false y w') := by
  obtain ⟨F, h1, h2, h3⟩ := H
  have T1 := h.below h3
  have nX := T1.noX
  have r2 := (T1.r false).keep (Keep.ofSet (S := fun k => k = X) w1 X 1 (.pointer (some ⟨q, 0, none⟩)) rfl) fun k hk e => (nX false).2 (e ▸ hk)
  refine (rClone_any (r2.below (Below.refl _ _).drew) (by show 4 ≤ (w1.setCell ⟨X, 1, none⟩ (.pointer (some ⟨q, 0, none⟩))).heap.size; rw [Wb.setX_size]; have := h3.size; omega)).mono ?_
  rintro r w' ⟨y, G, rfl, g1, g2, g3⟩
  exact ⟨y, rfl, G, g1, g2, (Below.refl _ _).drew.trans g3⟩
theorem clone_end_false {w w1 w2 : World} {X : Nat} {ρ : Wb.Rol} {S : Wb.BS} {T : Bool → TS} (h : Tw w X ρ S T) {q y : Nat} (H : Cl1 w T false q w1) (H2 : Cl2 (w1.setCell ⟨X, 1, none⟩ (.pointer (some ⟨q, 0, none⟩))) T false y w2) :
    (w2.cell? ⟨X, 2, none⟩ = some (.pointer (some ⟨(T false).y, 0, none⟩)) ∧ w2.cell? ⟨X, 3, none⟩ = some (.pointer (some ⟨(T true).y, 0, none⟩)) ∧ w2.frozen? ⟨X, 3, none⟩ = false) ∧
    (w2.setCell ⟨X, 3, none⟩ (.pointer (some ⟨y, 0, none⟩))).cell? ⟨X, 2, none⟩ = some (.pointer (some ⟨(T false).y, 0, none⟩)) ∧ (w2.setCell ⟨X, 3, none⟩ (.pointer (some ⟨y, 0, none⟩))).cell? ⟨X, 1, none⟩ = some (.pointer (some ⟨q, 0, none⟩)) ∧
    ∃ T', Tw (w2.setCell ⟨X, 3, none⟩ (.pointer (some ⟨y, 0, none⟩))) X ρ { S with p1 := .pointer (some ⟨q, 0, none⟩), x1 := .pointer (some ⟨y, 0, none⟩) } T' ∧ Goes w X T (w2.setCell ⟨X, 3, none⟩ (.pointer (some ⟨y, 0, none⟩))) T' ∧ ∀ c, ∃ d, (T' c).L = (T d).L := by
  obtain ⟨F, h1, h2, h3⟩ := H
  obtain ⟨G, g1, g2, g3⟩ := H2
  have T1 := h.below h3
  have hX := h.lt
  have B2 := T1.bk.set_p1 (.pointer (some ⟨q, 0, none⟩))
  have B3 := B2.below g3
  have B4 := B3.set_x1 (.pointer (some ⟨y, 0, none⟩))
  have R3 := B3.row
  have R4 := B4.row
  have sz1 : (w1.setCell ⟨X, 1, none⟩ (.pointer (some ⟨q, 0, none⟩))).heap.size = w1.heap.size := Wb.setX_size _ _ _ _
  have k1 := Keep.ofBelow (S := fun k => k = X) h3
  have k2 := Keep.ofSet (S := fun k => k = X) w1 X 1 (.pointer (some ⟨q, 0, none⟩)) rfl
  have k3 := Keep.ofBelow (S := fun k => k = X) g3
  have k4 := Keep.ofSet (S := fun k => k = X) w2 X 3 (.pointer (some ⟨y, 0, none⟩)) rfl
  have hs := h3.size
  have K := ((k1.trans k2 fun _ _ e => e).trans k3 fun _ _ e => e).trans k4 fun _ _ e => e
  have nF : ∀ k, F k → ¬ k = X := fun k hk e => by have := h2 k hk; omega
  have nG : ∀ k, G k → ¬ k = X := fun k hk e => by have := g2 k hk; omega
  have t4 := ((h1.keep k2 nF).below g3).keep k4 nF
  have r4 := g1.keep k4 nG
  have e1 := clT_b w T false q y F G
  have e2 := clT_n w T false q y F G
  rw [show (!false) = true from rfl] at e2
  obtain ⟨A, Go⟩ := h.cloned false (q := q) (y := y) (S' := { S with p1 := .pointer (some ⟨q, 0, none⟩), x1 := .pointer (some ⟨y, 0, none⟩) }) K B4 t4 r4 h2 (fun k hk => by have := g2 k hk; omega) (fun k hk e => by have := h1.lt k hk; have := g2 k e; omega)
    (by rw [e1]; exact h.p0) (by rw [e2]; rfl) (by rw [e1]; exact h.x0) (by rw [e2]; rfl)
  refine ⟨⟨?_, ?_, frozen_of_row _ _ _ _ _ R3⟩, ?_, ?_, _, A, Go, fun c => ?_⟩
  · rw [cell_of_row _ _ _ _ _ _ R3]; show some S.x0 = _; rw [h.x0]; rfl
  · rw [cell_of_row _ _ _ _ _ _ R3]; show some S.x1 = _; rw [h.x1]; rfl
  · rw [cell_of_row _ _ _ _ _ _ R4]; show some S.x0 = _; rw [h.x0]; rfl
  · rw [cell_of_row _ _ _ _ _ _ R4]; rfl
  · rcases b_or false c with e | e
    · exact ⟨false, by rw [e, e1]⟩
    · exact ⟨false, by rw [e, show (!false) = true from rfl, e2]⟩
theorem clone_mid_true {w w1 : World} {X : Nat} {ρ : Wb.Rol} {S : Wb.BS} {T : Bool → TS} (h : Tw w X ρ S T) {q : Nat} (H : Cl1 w T true q w1) :
    (w1.cell? ⟨X, 1, none⟩ = some (.pointer (some ⟨(T true).q, 0, none⟩)) ∧ w1.cell? ⟨X, 0, none⟩ = some (.pointer (some ⟨(T false).q, 0, none⟩)) ∧ w1.frozen? ⟨X, 0, none⟩ = false) ∧
    (w1.setCell ⟨X, 0, none⟩ (.pointer (some ⟨q, 0, none⟩))).cell? ⟨X, 1, none⟩ = some (.pointer (some ⟨(T true).q, 0, none⟩)) ∧ (w1.setCell ⟨X, 0, none⟩ (.pointer (some ⟨q, 0, none⟩))).cell? ⟨X, 3, none⟩ = some (.pointer (some ⟨(T true).y, 0, none⟩)) := by
  obtain ⟨F, h1, h2, h3⟩ := H
  have T1 := h.below h3
  have R2 := (T1.bk.set_p0 (.pointer (some ⟨q, 0, none⟩))).row
  refine ⟨⟨T1.ct true, T1.ct false, frozen_of_row _ _ _ _ _ T1.bk.row⟩, ?_, ?_⟩
  · rw [cell_of_row _ _ _ _ _ _ R2]
    show some S.p1 = _
    rw [T1.p1]; rfl
  · rw [cell_of_row _ _ _ _ _ _ R2]
    show some S.x1 = _
    rw [T1.x1]; rfl
theorem clone_snd_true {w w1 : World} {X : Nat} {ρ : Wb.Rol} {S : Wb.BS} {T : Bool → TS} (h : Tw w X ρ S T) {q : Nat} (H : Cl1 w T true q w1) (hT : 4 ≤ w.heap.size) :
    Calls Tryd.prog 55 #[.pointer (some ⟨(T true).y, 0, none⟩)] (w1.setCell ⟨X, 0, none⟩ (.pointer (some ⟨q, 0, none⟩))).drew fun r w' => ∃ y, r = .returned (.pointer (some ⟨y, 0, none⟩)) ∧ Hid (Cl2 (w1.setCell ⟨X, 0, none⟩ (.pointer (some ⟨q, 0, none⟩))) T true y w') := by
  obtain ⟨F, h1, h2, h3⟩ := H
  have T1 := h.below h3
  have nX := T1.noX
  have r2 := (T1.r true).keep (Keep.ofSet (S := fun k => k = X) w1 X 0 (.pointer (some ⟨q, 0, none⟩)) rfl) fun k hk e => (nX true).2 (e ▸ hk)
  refine (rClone_any (r2.below (Below.refl _ _).drew) (by show 4 ≤ (w1.setCell ⟨X, 0, none⟩ (.pointer (some ⟨q, 0, none⟩))).heap.size; rw [Wb.setX_size]; have := h3.size; omega)).mono ?_
  rintro r w' ⟨y, G, rfl, g1, g2, g3⟩
  exact ⟨y, rfl, G, g1, g2, (Below.refl _ _).drew.trans g3⟩
theorem clone_end_true {w w1 w2 : World} {X : Nat} {ρ : Wb.Rol} {S : Wb.BS} {T : Bool → TS} (h : Tw w X ρ S T) {q y : Nat} (H : Cl1 w T true q w1) (H2 : Cl2 (w1.setCell ⟨X, 0, none⟩ (.pointer (some ⟨q, 0, none⟩))) T true y w2) :
    (w2.cell? ⟨X, 3, none⟩ = some (.pointer (some ⟨(T true).y, 0, none⟩)) ∧ w2.cell? ⟨X, 2, none⟩ = some (.pointer (some ⟨(T false).y, 0, none⟩)) ∧ w2.frozen? ⟨X, 2, none⟩ = false) ∧
    (w2.setCell ⟨X, 2, none⟩ (.pointer (some ⟨y, 0, none⟩))).cell? ⟨X, 3, none⟩ = some (.pointer (some ⟨(T true).y, 0, none⟩)) ∧ (w2.setCell ⟨X, 2, none⟩ (.pointer (some ⟨y, 0, none⟩))).cell? ⟨X, 0, none⟩ = some (.pointer (some ⟨q, 0, none⟩)) ∧
    ∃ T', Tw (w2.setCell ⟨X, 2, none⟩ (.pointer (some ⟨y, 0, none⟩))) X ρ { S with p0 := .pointer (some ⟨q, 0, none⟩), x0 := .pointer (some ⟨y, 0, none⟩) } T' ∧ Goes w X T (w2.setCell ⟨X, 2, none⟩ (.pointer (some ⟨y, 0, none⟩))) T' ∧ ∀ c, ∃ d, (T' c).L = (T d).L := by
  obtain ⟨F, h1, h2, h3⟩ := H
  obtain ⟨G, g1, g2, g3⟩ := H2
  have T1 := h.below h3
  have hX := h.lt
  have B2 := T1.bk.set_p0 (.pointer (some ⟨q, 0, none⟩))
  have B3 := B2.below g3
  have B4 := B3.set_x0 (.pointer (some ⟨y, 0, none⟩))
  have R3 := B3.row
  have R4 := B4.row
  have sz1 : (w1.setCell ⟨X, 0, none⟩ (.pointer (some ⟨q, 0, none⟩))).heap.size = w1.heap.size := Wb.setX_size _ _ _ _
  have k1 := Keep.ofBelow (S := fun k => k = X) h3
  have k2 := Keep.ofSet (S := fun k => k = X) w1 X 0 (.pointer (some ⟨q, 0, none⟩)) rfl
  have k3 := Keep.ofBelow (S := fun k => k = X) g3
  have k4 := Keep.ofSet (S := fun k => k = X) w2 X 2 (.pointer (some ⟨y, 0, none⟩)) rfl
  have hs := h3.size
  have K := ((k1.trans k2 fun _ _ e => e).trans k3 fun _ _ e => e).trans k4 fun _ _ e => e
  have nF : ∀ k, F k → ¬ k = X := fun k hk e => by have := h2 k hk; omega
  have nG : ∀ k, G k → ¬ k = X := fun k hk e => by have := g2 k hk; omega
  have t4 := ((h1.keep k2 nF).below g3).keep k4 nF
  have r4 := g1.keep k4 nG
  have e1 := clT_b w T true q y F G
  have e2 := clT_n w T true q y F G
  rw [show (!true) = false from rfl] at e2
  obtain ⟨A, Go⟩ := h.cloned true (q := q) (y := y) (S' := { S with p0 := .pointer (some ⟨q, 0, none⟩), x0 := .pointer (some ⟨y, 0, none⟩) }) K B4 t4 r4 h2 (fun k hk => by have := g2 k hk; omega) (fun k hk e => by have := h1.lt k hk; have := g2 k e; omega)
    (by rw [e2]; rfl) (by rw [e1]; exact h.p1) (by rw [e2]; rfl) (by rw [e1]; exact h.x1)
  refine ⟨⟨?_, ?_, frozen_of_row _ _ _ _ _ R3⟩, ?_, ?_, _, A, Go, fun c => ?_⟩
  · rw [cell_of_row _ _ _ _ _ _ R3]; show some S.x1 = _; rw [h.x1]; rfl
  · rw [cell_of_row _ _ _ _ _ _ R3]; show some S.x0 = _; rw [h.x0]; rfl
  · rw [cell_of_row _ _ _ _ _ _ R4]; show some S.x1 = _; rw [h.x1]; rfl
  · rw [cell_of_row _ _ _ _ _ _ R4]; rfl
  · rcases b_or true c with e | e
    · exact ⟨true, by rw [e, e1]⟩
    · exact ⟨true, by rw [e, show (!true) = false from rfl, e2]⟩
end Go.Proofs.YtfddkmkibfmmgaaDoor
