import Derived.Test.YtfddkmkibfmmgaaDoorCTL52
namespace Go.Proofs.YtfddkmkibfmmgaaDoor
open Go.RowKit
/-- one tree turned -/
def upT (T : Bool → TS) (b : Bool) (s : TS) : Bool → TS := fun c => if c = b then s else T c
theorem upT_same (T : Bool → TS) (b : Bool) (s : TS) : upT T b s b = s := if_pos rfl
theorem upT_other {T : Bool → TS} {b c : Bool} {s : TS} (h : c ≠ b) : upT T b s c = T c := if_neg h
/-- the field keep is written -/
theorem Tw.kp {w : World} {X : Nat} {ρ : Wb.Rol} {S : Wb.BS} {T : Bool → TS} (h : Tw w X ρ S T) (b : Bool) : Tw (w.setCell ⟨X, 7, none⟩ (.bool b)) X ρ { S with kp := b } T := by
  have hF : ∀ c k, (T c).F k → ¬ k = X := fun c k hk e => by have := h.fr c k hk; rw [e, h.bk.rX] at this; cases this
  have hG : ∀ c k, (T c).G k → ¬ k = X := fun c k hk e => by have := h.gr c k hk; rw [e, h.bk.rX] at this; cases this
  have hK := Keep.ofSet (S := fun k => k = X) w X 7 (.bool b) rfl
  exact ⟨⟨heap_setCell_same w X 7 _ _ _ h.bk.row, h.bk.rX, h.bk.lt.setX _ _, h.bk.T.setX h.bk.rX _ _, h.bk.f2.setX h.bk.rX _ _, h.bk.f3.setX h.bk.rX _ _⟩, h.p0, h.p1, h.x0, h.x1, fun c => (h.t c).keep hK (hF c), fun c => (h.r c).keep hK (hG c), h.fr, h.gr, h.fg, h.ff, h.gg, fun k hk => ⟨(h.o k hk).1, Nat.lt_of_lt_of_le (h.o k hk).2.1 hK.size, (hK.block k (h.o k hk).2.1 fun e => by have := (h.o k hk).1; rw [e, h.bk.rX] at this; cases this).trans (h.o k hk).2.2.1, (h.o k hk).2.2.2⟩⟩
/-- the tree has taken a leaf: what the document's finds -/
theorem Tw.half {w w1 : World} {X : Nat} {ρ : Wb.Rol} {S : Wb.BS} {T : Bool → TS} (h : Tw w X ρ S T) (b : Bool) {F' : Nat → Prop} (m : Mov (T b).F w w1 F') :
    RtL w1 (T b).y (T b).h (T b).L (T b).G ∧ w1.heap[X]? = w.heap[X]? :=
  ⟨(h.r b).keep m.keep fun k hk e => h.fg b b k e hk, m.keep.block X h.lt fun e => by have := h.fr b X e; rw [h.bk.rX] at this; cases this⟩
/-- both have taken a leaf -/
theorem Tw.added {w w1 w2 : World} {X : Nat} {ρ : Wb.Rol} {S : Wb.BS} {T : Bool → TS} (h : Tw w X ρ S T) (b : Bool) {F' G' : Nat → Prop} {M : List (List UInt8)} (t1 : TrL w1 (T b).q (T b).h M F') (m1 : Mov (T b).F w w1 F') (r2 : RtL w2 (T b).y (T b).h M G') (m2 : Mov (T b).G w1 w2 G') :
    Tw w2 X ρ S (upT T b { T b with L := M, F := F', G := G' }) := by
  have sz := m1.keep.size
  have rn : ∀ k, w.heap.size ≤ k → ρ k = none := fun k hk => by
    cases hr : ρ k with
    | none => rfl
    | some r => have := (h.bk.lt k r hr).2; omega
  have gF : ∀ k r, ρ k = some r → ¬ (T b).F k := fun k r hr e => by rw [h.fr b k e] at hr; cases hr
  have gG : ∀ k r, ρ k = some r → ¬ (T b).G k := fun k r hr e => by rw [h.gr b k e] at hr; cases hr
  have nF : ∀ k, F' k → (T b).F k ∨ w.heap.size ≤ k := m1.new
  have nG : ∀ k, G' k → (T b).G k ∨ w1.heap.size ≤ k := m2.new
  have ltF : ∀ c k, (T c).F k → k < w.heap.size := fun c k hk => (h.t c).lt k hk
  have ltG : ∀ c k, (T c).G k → k < w.heap.size := fun c k hk => (h.r c).lt k hk
  have ltF' : ∀ k, F' k → k < w1.heap.size := t1.lt
  have fgA : ∀ c k, F' k → ¬ (T c).G k := fun c k hk e => by
    rcases nF k hk with e' | e'
    · exact h.fg b c k e' e
    · have := ltG c k e; omega
  have fgB : ∀ c k, (T c).F k → ¬ G' k := fun c k hk e => by
    rcases nG k e with e' | e'
    · exact h.fg c b k hk e'
    · have := ltF c k hk; omega
  have fgC : ∀ k, F' k → ¬ G' k := fun k hk e => by
    rcases nG k e with e' | e'
    · exact fgA b k hk e'
    · have := ltF' k hk; omega
  have ffA : ∀ c k, c ≠ b → F' k → ¬ (T c).F k := fun c k hc hk e => by
    rcases nF k hk with e' | e'
    · exact h.ff b c k (Ne.symm hc) e' e
    · have := ltF c k e; omega
  have ggA : ∀ c k, c ≠ b → G' k → ¬ (T c).G k := fun c k hc hk e => by
    rcases nG k hk with e' | e'
    · exact h.gg b c k (Ne.symm hc) e' e
    · have := ltG c k e; omega
  have qE : ∀ c, (upT T b { T b with L := M, F := F', G := G' } c).q = (T c).q := fun c => by
    by_cases e : c = b
    · subst e; rw [upT_same]
    · rw [upT_other e]
  have yE : ∀ c, (upT T b { T b with L := M, F := F', G := G' } c).y = (T c).y := fun c => by
    by_cases e : c = b
    · subst e; rw [upT_same]
    · rw [upT_other e]
  refine ⟨(h.bk.keep m1.keep gF).keep m2.keep gG, by rw [qE]; exact h.p0, by rw [qE]; exact h.p1, by rw [yE]; exact h.x0, by rw [yE]; exact h.x1, fun c => ?_, fun c => ?_, fun c k hk => ?_, fun c k hk => ?_, fun c d k hk e => ?_, fun c d k hcd hk e => ?_, fun c d k hcd hk e => ?_, fun k hk => ?_⟩
  · by_cases e : c = b
    · subst e; rw [upT_same]; exact t1.keep m2.keep (fgA c)
    · rw [upT_other e]
      exact ((h.t c).keep m1.keep fun k hk => h.ff c b k e hk).keep m2.keep fun k hk => h.fg c b k hk
  · by_cases e : c = b
    · subst e; rw [upT_same]; exact r2
    · rw [upT_other e]
      exact ((h.r c).keep m1.keep fun k hk e' => h.fg b c k e' hk).keep m2.keep fun k hk => h.gg c b k e hk
  · by_cases e : c = b
    · subst e; rw [upT_same] at hk
      rcases nF k hk with e' | e'
      · exact h.fr c k e'
      · exact rn k e'
    · rw [upT_other e] at hk; exact h.fr c k hk
  · by_cases e : c = b
    · subst e; rw [upT_same] at hk
      rcases nG k hk with e' | e'
      · exact h.gr c k e'
      · exact rn k (by omega)
    · rw [upT_other e] at hk; exact h.gr c k hk
  · by_cases e1 : c = b
    · subst e1; rw [upT_same] at hk
      by_cases e2 : d = c
      · subst e2; rw [upT_same] at e; exact fgC k hk e
      · rw [upT_other e2] at e; exact fgA d k hk e
    · rw [upT_other e1] at hk
      by_cases e2 : d = b
      · subst e2; rw [upT_same] at e; exact fgB c k hk e
      · rw [upT_other e2] at e; exact h.fg c d k hk e
  · by_cases e1 : c = b
    · subst e1; rw [upT_same] at hk; rw [upT_other (Ne.symm hcd)] at e; exact ffA d k (Ne.symm hcd) hk e
    · rw [upT_other e1] at hk
      by_cases e2 : d = b
      · subst e2; rw [upT_same] at e; exact ffA c k e1 e hk
      · rw [upT_other e2] at e; exact h.ff c d k hcd hk e
  · by_cases e1 : c = b
    · subst e1; rw [upT_same] at hk; rw [upT_other (Ne.symm hcd)] at e; exact ggA d k (Ne.symm hcd) hk e
    · rw [upT_other e1] at hk
      by_cases e2 : d = b
      · subst e2; rw [upT_same] at e; exact ggA c k e1 e hk
      · rw [upT_other e2] at e; exact h.gg c d k hcd hk e
  · have hk' : (T false).O k := by
      by_cases e : false = b
      · subst e; rw [upT_same] at hk; exact hk
      · rw [upT_other e] at hk; exact hk
    have hC : (upT T b { T b with L := M, F := F', G := G' } false).C = (T false).C := by
      by_cases e : false = b
      · subst e; rw [upT_same]
      · rw [upT_other e]
    obtain ⟨o1, o2, o3, o4⟩ := h.o k hk'
    refine ⟨o1, by have := m2.keep.size; omega, ?_, fun c => ?_⟩
    · rw [hC]
      exact ((m2.keep.block k (by omega) (o4 b).2).trans (m1.keep.block k o2 (o4 b).1)).trans o3
    · by_cases e : c = b
      · subst e; rw [upT_same]
        refine ⟨fun e => ?_, fun e => ?_⟩
        · rcases nF k e with e' | e'
          · exact (o4 c).1 e'
          · omega
        · rcases nG k e with e' | e'
          · exact (o4 c).2 e'
          · omega
      · rw [upT_other e]; exact o4 c
end Go.Proofs.YtfddkmkibfmmgaaDoor

namespace Go.Proofs.YtfddkmkibfmmgaaDoor
open Go.RowKit
/-- one tree is looked after: it is the first one, or it was left behind -/
def Trk (w : World) (T : Bool → TS) (q : Nat) : Prop := ∃ h L F, TrL w q h L F ∧ ((q = (T false).q ∧ h = (T false).h ∧ L = (T false).L ∧ F = (T false).F) ∨ ∀ k, F k → (T false).O k)
/-- from one world to a later one -/
def Goes (w : World) (X : Nat) (T : Bool → TS) (w' : World) (T' : Bool → TS) : Prop := (∀ B, B ≤ X → (∀ c k, (T c).F k → B ≤ k) → (∀ c k, (T c).G k → B ≤ k) → Below B w w' ∧ (∀ c k, (T' c).F k → B ≤ k) ∧ ∀ c k, (T' c).G k → B ≤ k) ∧ ∀ q, Trk w T q → Trk w' T' q
theorem Trk.keep {w w' : World} {X X' : Nat} {ρ ρ' : Wb.Rol} {S S' : Wb.BS} {T T' : Bool → TS} (h : Tw w X ρ S T) (h' : Tw w' X' ρ' S' T') (hO : ∀ k, (T false).O k → (T' false).O k ∧ (T' false).C k = (T false).C k) (e1 : w'.os = w.os) (e2 : w'.tape = w.tape) (e3 : w'.output = w.output) (e4 : w.heap.size ≤ w'.heap.size) {q h0 : Nat} {L : List (List UInt8)} {F : Nat → Prop} (t : TrL w q h0 L F) (hF : ∀ k, F k → (T false).O k) : Trk w' T' q :=
  ⟨h0, L, F, t.keep (S := fun k => ¬ (T false).O k) ⟨e1, e2, e3, e4, fun k _ hs => by
      have hk : (T false).O k := Classical.byContradiction hs
      rw [(h'.o k (hO k hk).1).2.2.1, (hO k hk).2, (h.o k hk).2.2.1]⟩ (fun k hk e => e (hF k hk)), .inr fun k hk => (hO k (hF k hk)).1⟩
theorem Goes.same {w w' : World} {X : Nat} {ρ ρ' : Wb.Rol} {S S' : Wb.BS} {T : Bool → TS} (h : Tw w X ρ S T) (h' : Tw w' X ρ' S' T) (hb : Below X w w') : Goes w X T w' T := by
  refine ⟨fun B hB hF hG => ⟨hb.mono hB, hF, hG⟩, fun q hq => ?_⟩
  obtain ⟨h0, L, F, t, ⟨rfl, rfl, rfl, rfl⟩ | hF⟩ := hq
  · exact ⟨_, _, _, h'.t false, .inl ⟨rfl, rfl, rfl, rfl⟩⟩
  · exact Trk.keep h h' (fun k hk => ⟨hk, rfl⟩) hb.os hb.tape hb.output hb.size t hF
/-- what a step leaves -/
def PlP (w : World) (X m N : Nat) (T : Bool → TS) (w' : World) : Prop := ∃ ρ' S' T', Tw w' X ρ' S' T' ∧ Ct S' (m + 2) ∧ Goes w X T w' T' ∧ ∀ c, (T' c).L.length ≤ N + 40
theorem PlP.of {w w' : World} {X m N : Nat} {ρ : Wb.Rol} {S : Wb.BS} {T : Bool → TS} (h : Tw w X ρ S T) {ρ' : Wb.Rol} {S' : Wb.BS} (h' : Tw w' X ρ' S' T) (hc : Ct S' (m + 2)) (hb : Below X w w') (hN : ∀ c, (T c).L.length ≤ N) : PlP w X m N T w' := ⟨ρ', S', T, h', hc, Goes.same h h' hb, fun c => by have := hN c; omega⟩
/-- a step in a variable of its own -/
def OpC (w : World) (g : Nat) (oth kpt : Bool) (kd n m : Int) (s : List UInt8) : Prop := w.heap[g]? = some (.cells #[.bool oth, .bool kpt, .int .i64 kd, .int .i64 n, .int .i64 m, .string ⟨s.toArray⟩] 69 (0, 0))
/-- the step is boxed, keep is written -/
theorem play_start {w : World} {X : Nat} {ρ : Wb.Rol} {S : Wb.BS} {T : Bool → TS} (h : Tw w X ρ S T) (oth kpt : Bool) (kd n m : Int) (s : List UInt8) :
    ∃ w1 w2, w.alloc (.cells #[.bool oth, .bool kpt, .int .i64 kd, .int .i64 n, .int .i64 m, .string ⟨s.toArray⟩] 69) = w1 ∧ w1.setCell ⟨X, 7, none⟩ (.bool kpt) = w2 ∧ w1.cell? ⟨w.heap.size, 1, none⟩ = some (.bool kpt) ∧ w1.cell? ⟨X, 7, none⟩ = some (.bool S.kp) ∧ w1.frozen? ⟨X, 7, none⟩ = false ∧
      Hid (Tw w2 X ρ { S with kp := kpt } T ∧ OpC w2 w.heap.size oth kpt kd n m s ∧ Below X w w2 ∧ w.heap.size < w2.heap.size) := by
  have b1 := (Below.refl w.heap.size w).alloc (Nat.le_refl _) (.cells #[.bool oth, .bool kpt, .int .i64 kd, .int .i64 n, .int .i64 m, .string ⟨s.toArray⟩] 69)
  have r1 := heap_alloc_new w (.cells #[.bool oth, .bool kpt, .int .i64 kd, .int .i64 n, .int .i64 m, .string ⟨s.toArray⟩] 69)
  have T1 := h.below b1
  have hX := h.lt
  refine ⟨_, _, rfl, rfl, by rw [cell_of_row _ _ _ _ _ _ r1]; rfl, by rw [cell_of_row _ _ _ _ _ _ T1.bk.row]; rfl, frozen_of_row _ _ _ _ _ T1.bk.row, T1.kp kpt, ?_, (b1.mono (Nat.le_of_lt hX)).setCell (p := ⟨X, 7, none⟩) (Nat.le_refl _) _, ?_⟩
  · exact (Wb.setX_block _ X 7 _ (by omega)).trans r1
  · rw [Wb.setX_size]; exact lt_of_heap r1
set_option maxRecDepth 100000 in
set_option maxHeartbeats 2000000 in
theorem play_root {w : World} {X : Nat} {ρ : Wb.Rol} {S : Wb.BS} {T : Bool → TS} (h : Tw w X ρ S T) {m N : Nat} (hc : Ct S m) (hm : m ≤ 230) (oth kpt : Bool) (n mm : Int) (hn1 : -9223372036854775808 ≤ n ∧ n ≤ 9223372036854775807) (hm1 : -9223372036854775808 ≤ mm ∧ mm ≤ 9223372036854775807) (s : List UInt8) (Z : Tb w) (hX4 : 4 ≤ X) (hN : ∀ c, (T c).L.length ≤ N) (hN2 : N ≤ 100000) :
    Calls Tryd.prog 30 #[ptr X, .agg #[.bool oth, .bool kpt, .int .i64 8, .int .i64 n, .int .i64 mm, .string ⟨s.toArray⟩]] w fun r w' => r = .returned (.bool true) ∧ PlP w X m N T w' := by
  have _u := And.intro hm (And.intro hn1 (And.intro hm1 hN2))
  unfold ptr
  cases oth
  · obtain ⟨w1, w2, hw1, hw2, y1, y7, f7, HT⟩ := play_start h false kpt 8 n mm s
    have R2 := HT.out.2.1
    unfold OpC at R2
    have e0 : w2.cell? ⟨w.heap.size, 0, none⟩ = some (.bool false) := by rw [cell_of_row _ _ _ _ _ _ R2]; rfl
    have e2 : w2.cell? ⟨w.heap.size, 2, none⟩ = some (.int .i64 8) := by rw [cell_of_row _ _ _ _ _ _ R2]; rfl
    have e3 : w2.cell? ⟨w.heap.size, 3, none⟩ = some (.int .i64 n) := by rw [cell_of_row _ _ _ _ _ _ R2]; rfl
    have e4 : w2.cell? ⟨w.heap.size, 4, none⟩ = some (.int .i64 mm) := by rw [cell_of_row _ _ _ _ _ _ R2]; rfl
    have i0 := rSizeL (HT.out.1.r false)
    have cx : w2.cell? ⟨X, 2, none⟩ = some (.pointer (some ⟨(T false).y, 0, none⟩)) := HT.out.1.cx false
    have Z2 : Tb w2 := Z.below HT.out.2.2.1 hX4
    have lb := hN false
    have fin : Hid (∀ w', Below w2.heap.size w2 w' → PlP w X m N T w') := fun w' bb => PlP.of h (HT.out.1.below bb) ⟨(by obtain ⟨a, q1, q2⟩ := hc.a; exact ⟨a, q1, by show a + S.L2.length ≤ m + 2; omega⟩), hc.e, hc.o, hc.tx⟩ (HT.out.2.2.1.trans (bb.mono (Nat.le_of_lt HT.out.1.lt))) hN
    have i1 := wroot_any HT.out.1 false n Z2
    unfold ptr at i1
    rw [show kN false = 0 from rfl] at i1

    have HN := hid hN
    generalize (T false).L.length = sz at *
    generalize (T false).y = yy at *
    have hkd : ∀ j : Int, True := fun _ => trivial
    clear R2 Z2 Z hkd h hN hc _u
    go_enter Tryd.func30, Tryd.ntmps30
    go_wp2_with (first
      | (go_at_call 49; refine i0.mono ?_; rintro r w3 ⟨rfl, hw3⟩; have hw3 := hw3.symm; subst hw3)
      | (go_at_call 53; refine i1.mono ?_; rintro r w4 ⟨rfl, hw4⟩))
    go_ret
    exact ⟨rfl, fin.out _ hw4⟩
  · obtain ⟨w1, w2, hw1, hw2, y1, y7, f7, HT⟩ := play_start h true kpt 8 n mm s
    have R2 := HT.out.2.1
    unfold OpC at R2
    have e0 : w2.cell? ⟨w.heap.size, 0, none⟩ = some (.bool true) := by rw [cell_of_row _ _ _ _ _ _ R2]; rfl
    have e2 : w2.cell? ⟨w.heap.size, 2, none⟩ = some (.int .i64 8) := by rw [cell_of_row _ _ _ _ _ _ R2]; rfl
    have e3 : w2.cell? ⟨w.heap.size, 3, none⟩ = some (.int .i64 n) := by rw [cell_of_row _ _ _ _ _ _ R2]; rfl
    have e4 : w2.cell? ⟨w.heap.size, 4, none⟩ = some (.int .i64 mm) := by rw [cell_of_row _ _ _ _ _ _ R2]; rfl
    have i0 := rSizeL (HT.out.1.r true)
    have cx : w2.cell? ⟨X, 3, none⟩ = some (.pointer (some ⟨(T true).y, 0, none⟩)) := HT.out.1.cx true
    have Z2 : Tb w2 := Z.below HT.out.2.2.1 hX4
    have lb := hN true
    have fin : Hid (∀ w', Below w2.heap.size w2 w' → PlP w X m N T w') := fun w' bb => PlP.of h (HT.out.1.below bb) ⟨(by obtain ⟨a, q1, q2⟩ := hc.a; exact ⟨a, q1, by show a + S.L2.length ≤ m + 2; omega⟩), hc.e, hc.o, hc.tx⟩ (HT.out.2.2.1.trans (bb.mono (Nat.le_of_lt HT.out.1.lt))) hN
    have i1 := wroot_any HT.out.1 true n Z2
    unfold ptr at i1
    rw [show kN true = 1 from rfl] at i1

    have HN := hid hN
    generalize (T true).L.length = sz at *
    generalize (T true).y = yy at *
    have hkd : ∀ j : Int, True := fun _ => trivial
    clear R2 Z2 Z hkd h hN hc _u
    go_enter Tryd.func30, Tryd.ntmps30
    go_wp2_with (first
      | (go_at_call 49; refine i0.mono ?_; rintro r w3 ⟨rfl, hw3⟩; have hw3 := hw3.symm; subst hw3)
      | (go_at_call 53; refine i1.mono ?_; rintro r w4 ⟨rfl, hw4⟩))
    go_ret
    exact ⟨rfl, fin.out _ hw4⟩
end Go.Proofs.YtfddkmkibfmmgaaDoor
