import Derived.Test.YtfddkmkibfmmgaaDoorCTL58
import Derived.Test.YtfddkmkibfmmgaaDoorCTL16
namespace Go.Proofs.YtfddkmkibfmmgaaDoor
open Go.RowKit
/-- leaves, when a text is added; the answer -/
def adL (L : List (List UInt8)) (x : List UInt8) : List (List UInt8) := if x.length = 32 then L ++ [x] else L
def adZ (x : List UInt8) : Int := if x.length = 32 then 0 else 71
theorem adL_len (L : List (List UInt8)) (x : List UInt8) : (adL L x).length ≤ L.length + 1 := by
  unfold adL; split <;> simp
theorem tAdd7_any {w : World} {q h : Nat} {L : List (List UInt8)} {F : Nat → Prop} (t : TrL w q h L F) (x : List UInt8) (hn : L.length < 1048576) (Z : Tb w) : Calls Tryd.prog 17 #[.pointer (some ⟨q, 0, none⟩), sv x] w fun r w' => r = .returned (.int .i64 (adZ x)) ∧ ∃ F', TrL w' q h (adL L x) F' ∧ Mov F w w' F' := by
  by_cases hx : x.length = 32
  · rw [show adL L x = L ++ [x] from if_pos hx, show adZ x = 0 from if_pos hx]
    exact tAdd_any t x hx hn Z
  · rw [show adL L x = L from if_neg hx, show adZ x = 71 from if_neg hx]
    refine (tAdd_bad q x hx w).mono ?_
    rintro r w' ⟨rfl, rfl⟩
    exact ⟨rfl, F, t, Mov.ofBelow (Below.refl _ _)⟩
theorem rAdd7_any {w : World} {q h : Nat} {L : List (List UInt8)} {F : Nat → Prop} (t : RtL w q h L F) (x : List UInt8) (hn : L.length < 1048576) (hT : 4 ≤ w.heap.size) : Calls Tryd.prog 50 #[.pointer (some ⟨q, 0, none⟩), sv x] w fun r w' => r = .returned (.int .i64 (adZ x)) ∧ ∃ F', RtL w' q h (adL L x) F' ∧ Mov F w w' F' := by
  by_cases hx : x.length = 32
  · rw [show adL L x = L ++ [x] from if_pos hx, show adZ x = 0 from if_pos hx]
    exact rAdd_any t x hx hn hT
  · rw [show adL L x = L from if_neg hx, show adZ x = 71 from if_neg hx]
    refine (rAdd_bad q x hx w).mono ?_
    rintro r w' ⟨rfl, rfl⟩
    exact ⟨rfl, F, t, Mov.ofBelow (Below.refl _ _)⟩
theorem Goes.trans {w w1 w2 : World} {X : Nat} {T T1 T2 : Bool → TS} (h : Goes w X T w1 T1) (k : Goes w1 X T1 w2 T2) : Goes w X T w2 T2 := by
  refine ⟨fun B hB hF hG => ?_, fun q hq => k.2 q (h.2 q hq)⟩
  obtain ⟨a1, a2, a3⟩ := h.1 B hB hF hG
  obtain ⟨b1, b2, b3⟩ := k.1 B hB a2 a3
  exact ⟨a1.trans b1, b2, b3⟩
/-- the tree has taken the text, the document's not yet -/
def Half (w : World) (T : Bool → TS) (b : Bool) (x : List UInt8) (w1 : World) : Prop := ∃ F', TrL w1 (T b).q (T b).h (adL (T b).L x) F' ∧ Mov (T b).F w w1 F'
theorem Half.below {w w1 w2 : World} {T : Bool → TS} {b : Bool} {x : List UInt8} (h : Half w T b x w1) (hb : Below w1.heap.size w1 w2) : Half w T b x w2 := by
  obtain ⟨F', h1, h2⟩ := h
  exact ⟨F', h1.below hb, h2.trans (Mov.ofBelow hb)⟩
/-- blocks that no tree has -/
def NoT (T : Bool → TS) (g : Nat) : Prop := ∀ c, ¬ (T c).F g ∧ ¬ (T c).G g
theorem Half.block {w w1 : World} {T : Bool → TS} {b : Bool} {x : List UInt8} (h : Half w T b x w1) {g : Nat} (hg : g < w.heap.size) (hn : NoT T g) : w1.heap[g]? = w.heap[g]? := by
  obtain ⟨F', h1, h2⟩ := h
  exact h2.keep.block g hg (hn b).1
theorem Tw.noX {w : World} {X : Nat} {ρ : Wb.Rol} {S : Wb.BS} {T : Bool → TS} (h : Tw w X ρ S T) : NoT T X := fun c => ⟨fun e => (by have := h.fr c X e; rw [h.bk.rX] at this; cases this), fun e => (by have := h.gr c X e; rw [h.bk.rX] at this; cases this)⟩
theorem Tw.noG {w : World} {X : Nat} {ρ : Wb.Rol} {S : Wb.BS} {T : Bool → TS} (h : Tw w X ρ S T) {g : Nat} (hg : w.heap.size ≤ g) : NoT T g := fun c => ⟨fun e => (by have := (h.t c).lt g e; omega), fun e => (by have := (h.r c).lt g e; omega)⟩
theorem add_fst {w : World} {X : Nat} {ρ : Wb.Rol} {S : Wb.BS} {T : Bool → TS} (h : Tw w X ρ S T) (b : Bool) (x : List UInt8) (hn : (T b).L.length < 1048576) (Z : Tb w) :
    Calls Tryd.prog 17 #[.pointer (some ⟨(T b).q, 0, none⟩), sv x] w fun r w' => r = .returned (.int .i64 (adZ x)) ∧ Hid (Half w T b x w') :=
  (tAdd7_any (h.t b) x hn Z).mono fun _ _ hh => hh
/-- what both leave -/
structure Addd (w : World) (X : Nat) (ρ : Wb.Rol) (S : Wb.BS) (T : Bool → TS) (w' : World) (T' : Bool → TS) : Prop where
  tw : Tw w' X ρ S T'
  go : Goes w X T w' T'
  ln : ∀ c, (T' c).L.length ≤ (T c).L.length + 1
  qy : ∀ c, (T' c).q = (T c).q ∧ (T' c).y = (T c).y
  bl : ∀ g, g < w.heap.size → NoT T g → w'.heap[g]? = w.heap[g]? ∧ NoT T' g
  sz : w.heap.size ≤ w'.heap.size
theorem add_snd {w w1 : World} {X : Nat} {ρ : Wb.Rol} {S : Wb.BS} {T : Bool → TS} (h : Tw w X ρ S T) (b : Bool) (x : List UInt8) (hn : (T b).L.length < 1048576) (H : Half w T b x w1) (hT : 4 ≤ w1.heap.size) :
    Calls Tryd.prog 50 #[.pointer (some ⟨(T b).y, 0, none⟩), sv x] w1 fun r w' => r = .returned (.int .i64 (adZ x)) ∧ Hid (∃ T', Addd w X ρ S T w' T') := by
  obtain ⟨F', t1, m1⟩ := H
  obtain ⟨r1, _⟩ := h.half b m1
  refine (rAdd7_any r1 x hn hT).mono ?_
  rintro r w' ⟨rfl, G', r2, m2⟩
  have A := h.added b t1 m1 r2 m2
  refine ⟨rfl, _, A, ?_, ?_, ?_, ?_, Nat.le_trans m1.keep.size m2.keep.size⟩
  · refine ⟨fun B hB hF hG => ?_, fun q hq => ?_⟩
    · have hX := h.lt
      have bw : B ≤ w.heap.size := by omega
      obtain ⟨a1, a2⟩ := m1.below (B := B) bw (hF b)
      obtain ⟨c1, c2⟩ := m2.below (B := B) (Nat.le_trans bw m1.keep.size) (hG b)
      refine ⟨a1.trans c1, fun c k hk => ?_, fun c k hk => ?_⟩
      · by_cases e : c = b
        · subst e; rw [upT_same] at hk; exact a2 k hk
        · rw [upT_other e] at hk; exact hF c k hk
      · by_cases e : c = b
        · subst e; rw [upT_same] at hk; exact c2 k hk
        · rw [upT_other e] at hk; exact hG c k hk
    · obtain ⟨h0, L, F, t, ⟨rfl, rfl, rfl, rfl⟩ | hF⟩ := hq
      · have hq : (upT T b { T b with L := adL (T b).L x, F := F', G := G' } false).q = (T false).q := by
          by_cases e : false = b
          · subst e; rw [upT_same]
          · rw [upT_other e]
        have tt := A.t false
        rw [hq] at tt
        exact ⟨_, _, _, tt, .inl ⟨hq.symm, rfl, rfl, rfl⟩⟩
      · refine Trk.keep h A (fun k hk => ?_) (m2.keep.os.trans m1.keep.os) (m2.keep.tape.trans m1.keep.tape) (m2.keep.output.trans m1.keep.output) (Nat.le_trans m1.keep.size m2.keep.size) t hF
        by_cases e : false = b
        · subst e; rw [upT_same]; exact ⟨hk, rfl⟩
        · rw [upT_other e]; exact ⟨hk, rfl⟩
  · intro c
    by_cases e : c = b
    · subst e; rw [upT_same]; exact adL_len _ _
    · rw [upT_other e]; omega
  · intro c
    by_cases e : c = b
    · subst e; rw [upT_same]; exact ⟨rfl, rfl⟩
    · rw [upT_other e]; exact ⟨rfl, rfl⟩
  · intro g hg hng
    refine ⟨(m2.keep.block g (Nat.lt_of_lt_of_le hg m1.keep.size) (hng b).2).trans (m1.keep.block g hg (hng b).1), fun c => ?_⟩
    by_cases e : c = b
    · subst e; rw [upT_same]
      refine ⟨fun e => ?_, fun e => ?_⟩
      · rcases m1.new g e with e' | e'
        · exact (hng c).1 e'
        · omega
      · rcases m2.new g e with e' | e'
        · exact (hng c).2 e'
        · have := m1.keep.size; omega
    · rw [upT_other e]; exact hng c
end Go.Proofs.YtfddkmkibfmmgaaDoor

namespace Go.Proofs.YtfddkmkibfmmgaaDoor
open Go.RowKit
set_option maxRecDepth 100000 in
set_option maxHeartbeats 4000000 in
theorem play_add {w : World} {X : Nat} {ρ : Wb.Rol} {S : Wb.BS} {T : Bool → TS} (h : Tw w X ρ S T) {m N : Nat} (hc : Ct S m) (hm : m ≤ 230) (oth kpt : Bool) (n mm : Int) (hn1 : -9223372036854775808 ≤ n ∧ n ≤ 9223372036854775807) (hm1 : -9223372036854775808 ≤ mm ∧ mm ≤ 9223372036854775807) (s : List UInt8) (Z : Tb w) (hX4 : 4 ≤ X) (hN : ∀ c, (T c).L.length ≤ N) (hN2 : N ≤ 100000) :
    Calls Tryd.prog 30 #[ptr X, .agg #[.bool oth, .bool kpt, .int .i64 1, .int .i64 n, .int .i64 mm, .string ⟨s.toArray⟩]] w fun r w' => r = .returned (.bool true) ∧ PlP w X m N T w' := by
  have _u := And.intro hm (And.intro hn1 (And.intro hm1 hN2))
  unfold ptr
  cases oth
  · obtain ⟨w1, w2, hw1, hw2, y1, y7, f7, HT⟩ := play_start h false kpt 1 n mm s
    have R2 := HT.out.2.1
    unfold OpC at R2
    have e0 : w2.cell? ⟨w.heap.size, 0, none⟩ = some (.bool false) := by rw [cell_of_row _ _ _ _ _ _ R2]; rfl
    have e2 : w2.cell? ⟨w.heap.size, 2, none⟩ = some (.int .i64 1) := by rw [cell_of_row _ _ _ _ _ _ R2]; rfl
    have e3 : w2.cell? ⟨w.heap.size, 3, none⟩ = some (.int .i64 n) := by rw [cell_of_row _ _ _ _ _ _ R2]; rfl
    have e4 : w2.cell? ⟨w.heap.size, 4, none⟩ = some (.int .i64 mm) := by rw [cell_of_row _ _ _ _ _ _ R2]; rfl
    have e5 : w2.cell? ⟨w.heap.size, 5, none⟩ = some (.string ⟨s.toArray⟩) := by rw [cell_of_row _ _ _ _ _ _ R2]; rfl
    have i0 := rSizeL (HT.out.1.r false)
    have cx : w2.cell? ⟨X, 2, none⟩ = some (.pointer (some ⟨(T false).y, 0, none⟩)) := HT.out.1.cx false
    have ct : w2.cell? ⟨X, 0, none⟩ = some (.pointer (some ⟨(T false).q, 0, none⟩)) := HT.out.1.ct false
    have Z2 : Tb w2 := Z.below HT.out.2.2.1 hX4
    have lb := hN false
    have nX := HT.out.1.noX
    have nG : NoT T w.heap.size := h.noG (Nat.le_refl _)
    have hX2 := HT.out.1.lt
    have hg2 : w.heap.size < w2.heap.size := HT.out.2.2.2
    have CX := HT.out.1.cx false
    have dr : Below w2.heap.size w2 w2.drew := (Below.refl _ _).drew
    have i1 := add_fst (HT.out.1.below dr) false s (by omega) (Z2.below dr Z2.lt)
    have i2 : Hid (∀ w3, Half w2.drew T false s w3 → Calls Tryd.prog 50 #[.pointer (some ⟨(T false).y, 0, none⟩), sv s] w3.drew fun r w' => r = .returned (.int .i64 (adZ s)) ∧ Hid (∃ T', Addd w2.drew X ρ { S with kp := kpt } T w' T')) := fun w3 H => add_snd (HT.out.1.below dr) false s (by omega) (H.below (Below.refl _ _).drew) (by have := Z2.lt; obtain ⟨_, _, hh⟩ := H; have := hh.keep.size; have := dr.size; show 4 ≤ w3.heap.size; omega)
    have C0 : Hid (∀ w3, Half w2.drew T false s w3 → (w3.cell? ⟨X, 0, none⟩ = some (.pointer (some ⟨(T false).q, 0, none⟩)) ∧ w3.cell? ⟨w.heap.size, 5, none⟩ = some (.string ⟨s.toArray⟩)) ∧ w3.cell? ⟨X, 2, none⟩ = some (.pointer (some ⟨(T false).y, 0, none⟩)) ∧ w3.cell? ⟨w.heap.size, 5, none⟩ = some (.string ⟨s.toArray⟩)) := fun w3 H => by
      have q1 := World.cell?_of_block (w := w2) (a := ⟨X, 0, none⟩) (H.block (g := X) hX2 nX)
      have q2 := World.cell?_of_block (w := w2) (a := ⟨X, 2, none⟩) (H.block (g := X) hX2 nX)
      have q3 := World.cell?_of_block (w := w2) (a := ⟨w.heap.size, 5, none⟩) (H.block (g := w.heap.size) hg2 nG)
      exact ⟨⟨q1.trans ct, q3.trans e5⟩, q2.trans cx, q3.trans e5⟩
    have C2 : Hid (∀ w', (∃ T', Addd w2.drew X ρ { S with kp := kpt } T w' T') → w'.cell? ⟨X, 2, none⟩ = some (.pointer (some ⟨(T false).y, 0, none⟩)) ∧ w'.cell? ⟨w.heap.size, 5, none⟩ = some (.string ⟨s.toArray⟩)) := fun w' ⟨T', A⟩ =>
      ⟨(World.cell?_of_block (w := w2) (a := ⟨X, 2, none⟩) (A.bl X hX2 nX).1).trans cx, (World.cell?_of_block (w := w2) (a := ⟨w.heap.size, 5, none⟩) (A.bl w.heap.size hg2 nG).1).trans e5⟩
    have fin : Hid (∀ w3 w', Below w2.heap.size w2 w3 → (∃ T', Addd w3 X ρ { S with kp := kpt } T w' T') → PlP w X m N T w') := fun w3 w' b3 ⟨T', A⟩ => ⟨ρ, _, T', A.tw, ⟨(by obtain ⟨a, q1, q2⟩ := hc.a; exact ⟨a, q1, by show a + S.L2.length ≤ m + 2; omega⟩), hc.e, hc.o, hc.tx⟩, (Goes.same h (HT.out.1.below b3) (HT.out.2.2.1.trans (b3.mono (Nat.le_of_lt hX2)))).trans A.go, fun c => by have := hN c; have := A.ln c; omega⟩
    have HN := hid hN
    have S0 : w2.cell? ⟨X, 0, none⟩ = some (.pointer (some ⟨(T false).q, 0, none⟩)) ∧ w2.cell? ⟨w.heap.size, 5, none⟩ = some (.string ⟨s.toArray⟩) := ⟨ct, e5⟩
    have D := hid dr
    generalize (T false).L.length = sz at *
    generalize (T false).y = yy at *
    generalize (T false).q = qq at *
    generalize adZ s = z at *
    rw [show sv s = Value.string ⟨s.toArray⟩ from rfl] at i1 i2
    clear R2 Z2 Z h hN hc _u nX nG hX2 hg2 CX dr ct e3 e4 e5
    go_enter Tryd.func30, Tryd.ntmps30
    go_wp2_with (go_at_call 49; refine i0.mono ?_; rintro r w3 ⟨rfl, hw3⟩; have hw3 := hw3.symm; subst hw3)
    go_region_held3 (fun w' => w'.cell? ⟨X, 0, none⟩ = some (.pointer (some ⟨qq, 0, none⟩)) ∧ w'.cell? ⟨w.heap.size, 5, none⟩ = some (.string ⟨s.toArray⟩)) (first | exact S0 | exact S3) ((go_at_call 17; (with_reducible refine i1.mono ?_); rintro r w3 ⟨rfl, H3⟩; have S3 := (C0.out _ H3.out).1))
    have S4 := (C0.out _ H3.out).2
    have i3 := i2.out _ H3.out
    clear S0 S3 i1 i2 cx
    go_wp2
    go_region_held3 (fun w' => w'.cell? ⟨X, 2, none⟩ = some (.pointer (some ⟨yy, 0, none⟩)) ∧ w'.cell? ⟨w.heap.size, 5, none⟩ = some (.string ⟨s.toArray⟩)) (first | exact S4 | exact S5) ((go_at_call 50; (with_reducible refine i3.mono ?_); rintro r w4 ⟨rfl, H4⟩; have S5 := C2.out _ H4.out))
    go_wp2
    go_ret
    exact ⟨rfl, fin.out _ _ D.out H4.out⟩
  · obtain ⟨w1, w2, hw1, hw2, y1, y7, f7, HT⟩ := play_start h true kpt 1 n mm s
    have R2 := HT.out.2.1
    unfold OpC at R2
    have e0 : w2.cell? ⟨w.heap.size, 0, none⟩ = some (.bool true) := by rw [cell_of_row _ _ _ _ _ _ R2]; rfl
    have e2 : w2.cell? ⟨w.heap.size, 2, none⟩ = some (.int .i64 1) := by rw [cell_of_row _ _ _ _ _ _ R2]; rfl
    have e3 : w2.cell? ⟨w.heap.size, 3, none⟩ = some (.int .i64 n) := by rw [cell_of_row _ _ _ _ _ _ R2]; rfl
    have e4 : w2.cell? ⟨w.heap.size, 4, none⟩ = some (.int .i64 mm) := by rw [cell_of_row _ _ _ _ _ _ R2]; rfl
    have e5 : w2.cell? ⟨w.heap.size, 5, none⟩ = some (.string ⟨s.toArray⟩) := by rw [cell_of_row _ _ _ _ _ _ R2]; rfl
    have i0 := rSizeL (HT.out.1.r true)
    have cx : w2.cell? ⟨X, 3, none⟩ = some (.pointer (some ⟨(T true).y, 0, none⟩)) := HT.out.1.cx true
    have ct : w2.cell? ⟨X, 1, none⟩ = some (.pointer (some ⟨(T true).q, 0, none⟩)) := HT.out.1.ct true
    have Z2 : Tb w2 := Z.below HT.out.2.2.1 hX4
    have lb := hN true
    have nX := HT.out.1.noX
    have nG : NoT T w.heap.size := h.noG (Nat.le_refl _)
    have hX2 := HT.out.1.lt
    have hg2 : w.heap.size < w2.heap.size := HT.out.2.2.2
    have CX := HT.out.1.cx true
    have dr : Below w2.heap.size w2 w2.drew := (Below.refl _ _).drew
    have i1 := add_fst (HT.out.1.below dr) true s (by omega) (Z2.below dr Z2.lt)
    have i2 : Hid (∀ w3, Half w2.drew T true s w3 → Calls Tryd.prog 50 #[.pointer (some ⟨(T true).y, 0, none⟩), sv s] w3.drew fun r w' => r = .returned (.int .i64 (adZ s)) ∧ Hid (∃ T', Addd w2.drew X ρ { S with kp := kpt } T w' T')) := fun w3 H => add_snd (HT.out.1.below dr) true s (by omega) (H.below (Below.refl _ _).drew) (by have := Z2.lt; obtain ⟨_, _, hh⟩ := H; have := hh.keep.size; have := dr.size; show 4 ≤ w3.heap.size; omega)
    have C0 : Hid (∀ w3, Half w2.drew T true s w3 → (w3.cell? ⟨X, 1, none⟩ = some (.pointer (some ⟨(T true).q, 0, none⟩)) ∧ w3.cell? ⟨w.heap.size, 5, none⟩ = some (.string ⟨s.toArray⟩)) ∧ w3.cell? ⟨X, 3, none⟩ = some (.pointer (some ⟨(T true).y, 0, none⟩)) ∧ w3.cell? ⟨w.heap.size, 5, none⟩ = some (.string ⟨s.toArray⟩)) := fun w3 H => by
      have q1 := World.cell?_of_block (w := w2) (a := ⟨X, 1, none⟩) (H.block (g := X) hX2 nX)
      have q2 := World.cell?_of_block (w := w2) (a := ⟨X, 3, none⟩) (H.block (g := X) hX2 nX)
      have q3 := World.cell?_of_block (w := w2) (a := ⟨w.heap.size, 5, none⟩) (H.block (g := w.heap.size) hg2 nG)
      exact ⟨⟨q1.trans ct, q3.trans e5⟩, q2.trans cx, q3.trans e5⟩
    have C2 : Hid (∀ w', (∃ T', Addd w2.drew X ρ { S with kp := kpt } T w' T') → w'.cell? ⟨X, 3, none⟩ = some (.pointer (some ⟨(T true).y, 0, none⟩)) ∧ w'.cell? ⟨w.heap.size, 5, none⟩ = some (.string ⟨s.toArray⟩)) := fun w' ⟨T', A⟩ =>
      ⟨(World.cell?_of_block (w := w2) (a := ⟨X, 3, none⟩) (A.bl X hX2 nX).1).trans cx, (World.cell?_of_block (w := w2) (a := ⟨w.heap.size, 5, none⟩) (A.bl w.heap.size hg2 nG).1).trans e5⟩
    have fin : Hid (∀ w3 w', Below w2.heap.size w2 w3 → (∃ T', Addd w3 X ρ { S with kp := kpt } T w' T') → PlP w X m N T w') := fun w3 w' b3 ⟨T', A⟩ => ⟨ρ, _, T', A.tw, ⟨(by obtain ⟨a, q1, q2⟩ := hc.a; exact ⟨a, q1, by show a + S.L2.length ≤ m + 2; omega⟩), hc.e, hc.o, hc.tx⟩, (Goes.same h (HT.out.1.below b3) (HT.out.2.2.1.trans (b3.mono (Nat.le_of_lt hX2)))).trans A.go, fun c => by have := hN c; have := A.ln c; omega⟩
    have HN := hid hN
    have S0 : w2.cell? ⟨X, 1, none⟩ = some (.pointer (some ⟨(T true).q, 0, none⟩)) ∧ w2.cell? ⟨w.heap.size, 5, none⟩ = some (.string ⟨s.toArray⟩) := ⟨ct, e5⟩
    have D := hid dr
    generalize (T true).L.length = sz at *
    generalize (T true).y = yy at *
    generalize (T true).q = qq at *
    generalize adZ s = z at *
    rw [show sv s = Value.string ⟨s.toArray⟩ from rfl] at i1 i2
    clear R2 Z2 Z h hN hc _u nX nG hX2 hg2 CX dr ct e3 e4 e5
    go_enter Tryd.func30, Tryd.ntmps30
    go_wp2_with (go_at_call 49; refine i0.mono ?_; rintro r w3 ⟨rfl, hw3⟩; have hw3 := hw3.symm; subst hw3)
    go_region_held3 (fun w' => w'.cell? ⟨X, 1, none⟩ = some (.pointer (some ⟨qq, 0, none⟩)) ∧ w'.cell? ⟨w.heap.size, 5, none⟩ = some (.string ⟨s.toArray⟩)) (first | exact S0 | exact S3) ((go_at_call 17; (with_reducible refine i1.mono ?_); rintro r w3 ⟨rfl, H3⟩; have S3 := (C0.out _ H3.out).1))
    have S4 := (C0.out _ H3.out).2
    have i3 := i2.out _ H3.out
    clear S0 S3 i1 i2 cx
    go_wp2
    go_region_held3 (fun w' => w'.cell? ⟨X, 3, none⟩ = some (.pointer (some ⟨yy, 0, none⟩)) ∧ w'.cell? ⟨w.heap.size, 5, none⟩ = some (.string ⟨s.toArray⟩)) (first | exact S4 | exact S5) ((go_at_call 50; (with_reducible refine i3.mono ?_); rintro r w4 ⟨rfl, H4⟩; have S5 := C2.out _ H4.out))
    go_wp2
    go_ret
    exact ⟨rfl, fin.out _ _ D.out H4.out⟩
end Go.Proofs.YtfddkmkibfmmgaaDoor
