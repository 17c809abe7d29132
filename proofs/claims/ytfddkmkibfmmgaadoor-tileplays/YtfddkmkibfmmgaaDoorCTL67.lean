import Derived.Test.YtfddkmkibfmmgaaDoorCTL59
import Derived.Test.YtfddkmkibfmmgaaDoorCTL61
import Derived.Test.YtfddkmkibfmmgaaDoorCTL64
import Derived.Test.YtfddkmkibfmmgaaDoorCTL66
import Derived.Test.YtfddkmkibfmmgaaDoorCTL71
import Derived.Test.YtfddkmkibfmmgaaDoorCTL48
import Derived.Test.YtfddkmkibfmmgaaDoorCTL44
import Derived.Test.YtfddkmkibfmmgaaDoorCK3
import Derived.Test.YtfddkmkibfmmgaaDoorCFR6
import Derived.Test.YtfddkmkibfmmgaaDoorCO15
import Derived.Deep.SlicePairs
namespace Go.Proofs.YtfddkmkibfmmgaaDoor
open Go.RowKit
/-- one step of any kind -/
theorem play_any {w : World} {X : Nat} {ρ : Wb.Rol} {S : Wb.BS} {T : Bool → TS} (h : Tw w X ρ S T) {m N : Nat} (hc : Ct S m) (hm : m ≤ 230) (oth kpt : Bool) (kd n mm : Int) (hn1 : -9223372036854775808 ≤ n ∧ n ≤ 9223372036854775807) (hm1 : -9223372036854775808 ≤ mm ∧ mm ≤ 9223372036854775807) (s : List UInt8) (Z : Tb w) (hX4 : 4 ≤ X) (hN : ∀ c, (T c).L.length ≤ N) (hN2 : N ≤ 100000) :
    Calls Tryd.prog 30 #[ptr X, .agg #[.bool oth, .bool kpt, .int .i64 kd, .int .i64 n, .int .i64 mm, .string ⟨s.toArray⟩]] w fun r w' => r = .returned (.bool true) ∧ PlP w X m N T w' := by
  by_cases hk : kd < 1 ∨ 14 < kd
  · exact play_none h hc oth kpt kd n mm s hN hk
  · obtain e | e | e | e | e | e | e | e | e | e | e | e | e | e : kd = 1 ∨ kd = 2 ∨ kd = 3 ∨ kd = 4 ∨ kd = 5 ∨ kd = 6 ∨ kd = 7 ∨ kd = 8 ∨ kd = 9 ∨ kd = 10 ∨ kd = 11 ∨ kd = 12 ∨ kd = 13 ∨ kd = 14 := by omega
    all_goals subst e
    · exact play_add h hc hm oth kpt n mm hn1 hm1 s Z hX4 hN hN2
    · exact play_leaf h hc hm oth kpt n mm hn1 hm1 s Z hX4 hN hN2
    · exact play_many h hc hm oth kpt n mm hn1 hm1 s Z hX4 hN hN2
    · exact play_hash h hc hm oth kpt n mm hn1 hm1 s Z hX4 hN hN2
    · exact play_tile h hc hm oth kpt n mm hn1 hm1 s Z hX4 hN hN2
    · exact play_part h hc hm oth kpt n mm hn1 hm1 s Z hX4 hN hN2
    · exact play_near h hc hm oth kpt n mm hn1 hm1 s Z hX4 hN hN2
    · exact play_root h hc hm oth kpt n mm hn1 hm1 s Z hX4 hN hN2
    · exact play_past h hc hm oth kpt n mm hn1 hm1 s Z hX4 hN hN2
    · exact play_leaves h hc hm oth kpt n mm hn1 hm1 s Z hX4 hN hN2
    · exact play_some h hc hm oth kpt n mm hn1 hm1 s Z hX4 hN hN2
    · exact play_clone h hc hm oth kpt n mm hn1 hm1 s Z hX4 hN hN2
    · exact play_sizes h hc hm oth kpt n mm hn1 hm1 s Z hX4 hN hN2
    · exact play_whole h hc hm oth kpt n mm hn1 hm1 s Z hX4 hN hN2
end Go.Proofs.YtfddkmkibfmmgaaDoor

namespace Go.Proofs.YtfddkmkibfmmgaaDoor
open Go.RowKit
/-- the law's world behind some steps -/
structure Gm (W : World) (X qa m N : Nat) (w : World) : Prop where
  ex : ∃ ρ S T, Tw w X ρ S T ∧ Ct S m ∧ (∀ c, (T c).L.length ≤ N) ∧ Trk w T qa ∧ (∀ c k, (T c).F k → W.heap.size ≤ k) ∧ ∀ c k, (T c).G k → W.heap.size ≤ k
  bl : Below W.heap.size W w
  hX : W.heap.size ≤ X
theorem Gm.below {W w w' : World} {X qa m N : Nat} (g : Gm W X qa m N w) (hb : Below w.heap.size w w') : Gm W X qa m N w' := by
  obtain ⟨ρ, S, T, a1, a2, a3, a4, a5, a6⟩ := g.ex
  exact ⟨⟨ρ, S, T, a1.below hb, a2, a3, (Goes.same a1 (a1.below hb) (hb.mono (Nat.le_of_lt a1.lt))).2 qa a4, a5, a6⟩, g.bl.trans (hb.mono g.bl.size), g.hX⟩
theorem Gm.play {W w : World} {X qa m N : Nat} (g : Gm W X qa m N w) (hm : m ≤ 230) (hN : N ≤ 100000) (oth kpt : Bool) (kd n mm : Int) (hn1 : -9223372036854775808 ≤ n ∧ n ≤ 9223372036854775807) (hm1 : -9223372036854775808 ≤ mm ∧ mm ≤ 9223372036854775807) (s : List UInt8) (Z : Tb W) :
    Calls Tryd.prog 30 #[.pointer (some ⟨X, 0, none⟩), .agg #[.bool oth, .bool kpt, .int .i64 kd, .int .i64 n, .int .i64 mm, .string ⟨s.toArray⟩]] w fun r w' => r = .returned (.bool true) ∧ Hid (Gm W X qa (m + 2) (N + 40) w') := by
  obtain ⟨ρ, S, T, a1, a2, a3, a4, a5, a6⟩ := g.ex
  have hT : 4 ≤ X := Nat.le_trans Z.lt g.hX
  refine (play_any a1 a2 hm oth kpt kd n mm hn1 hm1 s (Z.below g.bl Z.lt) hT a3 hN).mono ?_
  rintro r w' ⟨rfl, ρ', S', T', c1, c2, c3, c4⟩
  obtain ⟨d1, d2, d3⟩ := c3.1 W.heap.size g.hX a5 a6
  exact ⟨rfl, ⟨ρ', S', T', c1, c2, c4, c3.2 qa a4, d2, d3⟩, g.bl.trans d1, g.hX⟩
theorem Gm.kept {W w : World} {X qa m N : Nat} (g : Gm W X qa m N w) (hm : m ≤ 240) :
    Calls Tryd.prog 31 #[.pointer (some ⟨X, 0, none⟩)] w fun r w' => r = .returned (.bool true) ∧ Hid (Gm W X qa m N w') := by
  obtain ⟨ρ, S, T, a1, a2, _⟩ := g.ex
  obtain ⟨a, ha, hb⟩ := a2.a
  refine (Wb.kept_any X ρ S w a1.bk (by omega)).mono ?_
  rintro r w' ⟨rfl, hw⟩
  exact ⟨rfl, g.below hw⟩
theorem Gm.settled {W w : World} {X qa m N : Nat} (g : Gm W X qa m N w) (hm : m ≤ 240) :
    Calls Tryd.prog 32 #[.pointer (some ⟨X, 0, none⟩)] w fun r w' => r = .returned (.bool true) ∧ Hid (Below W.heap.size W w') := by
  obtain ⟨ρ, S, T, a1, a2, _⟩ := g.ex
  obtain ⟨a, ha, hb⟩ := a2.a
  refine (Wb.settled_any X a ρ S w a1.bk a2.o ha a2.e a2.tx (by omega)).mono ?_
  rintro r w' ⟨rfl, hw⟩
  exact ⟨rfl, g.bl.trans (hw.mono g.hX)⟩
theorem Gm.tree {W w : World} {X qa m N : Nat} (g : Gm W X qa m N w) : ∃ h L F, TrL w qa h L F := by
  obtain ⟨ρ, S, T, a1, a2, a3, ⟨h, L, F, t, _⟩, _⟩ := g.ex
  exact ⟨h, L, F, t⟩
/-- both pairs of trees -/
def st0 (qa ya ha qb yb hb : Nat) (Fa Ga Fb' Gb : Nat → Prop) : Bool → TS
  | false => ⟨qa, ya, ha, [], Fa, Ga, fun _ => False, fun _ => none⟩
  | true => ⟨qb, yb, hb, [], Fb', Gb, fun _ => False, fun _ => none⟩
theorem gm_start {W w0 w1 w2 w3 w4 w6 : World} {qa ya ha qb yb hb : Nat} {Fa Ga Fb' Gb : Nat → Prop} (b0 : Below W.heap.size W w0) (tA : TrL w1 qa ha [] Fa) (nA : ∀ k, Fa k → w0.heap.size ≤ k) (bA : Below w0.heap.size w0 w1)
    (tB : TrL w2 qb hb [] Fb') (nB : ∀ k, Fb' k → w1.heap.size ≤ k) (bB : Below w1.heap.size w1 w2) (rA : RtL w3 ya ha [] Ga) (mA : ∀ k, Ga k → w2.heap.size ≤ k) (cA : Below w2.heap.size w2 w3)
    (rB : RtL w4 yb hb [] Gb) (mB : ∀ k, Gb k → w3.heap.size ≤ k) (cB : Below w3.heap.size w3 w4) (b6 : Below w4.heap.size w4 w6) :
    Gm W w6.heap.size qa 0 0 (w6.alloc (.cells #[.pointer (some ⟨qa, 0, none⟩), .pointer (some ⟨qb, 0, none⟩), .pointer (some ⟨ya, 0, none⟩), .pointer (some ⟨yb, 0, none⟩), .slice none 0 0, .slice none 0 0, .slice none 0 0, .bool false] 66)) := by
  have b7 := (Below.refl w6.heap.size w6).alloc (Nat.le_refl _) (.cells #[.pointer (some ⟨qa, 0, none⟩), .pointer (some ⟨qb, 0, none⟩), .pointer (some ⟨ya, 0, none⟩), .pointer (some ⟨yb, 0, none⟩), .slice none 0 0, .slice none 0 0, .slice none 0 0, .bool false] 66)
  have r7 := heap_alloc_new w6 (.cells #[.pointer (some ⟨qa, 0, none⟩), .pointer (some ⟨qb, 0, none⟩), .pointer (some ⟨ya, 0, none⟩), .pointer (some ⟨yb, 0, none⟩), .slice none 0 0, .slice none 0 0, .slice none 0 0, .bool false] 66)
  have z7 := size_alloc w6 (.cells #[.pointer (some ⟨qa, 0, none⟩), .pointer (some ⟨qb, 0, none⟩), .pointer (some ⟨ya, 0, none⟩), .pointer (some ⟨yb, 0, none⟩), .slice none 0 0, .slice none 0 0, .slice none 0 0, .bool false] 66)
  generalize w6.alloc (.cells #[.pointer (some ⟨qa, 0, none⟩), .pointer (some ⟨qb, 0, none⟩), .pointer (some ⟨ya, 0, none⟩), .pointer (some ⟨yb, 0, none⟩), .slice none 0 0, .slice none 0 0, .slice none 0 0, .bool false] 66) = w7 at *
  have s0 := b0.size
  have s1 := bA.size
  have s2 := bB.size
  have s3 := cA.size
  have s4 := cB.size
  have s6 := b6.size
  have c67 : Below w4.heap.size w4 w7 := b6.trans (b7.mono s6)
  have c37 : Below w3.heap.size w3 w7 := cB.trans (c67.mono s4)
  have c27 : Below w2.heap.size w2 w7 := cA.trans (c37.mono s3)
  have c17 : Below w1.heap.size w1 w7 := bB.trans (c27.mono s2)
  have c07 : Below w0.heap.size w0 w7 := bA.trans (c17.mono s1)
  have lA := tA.lt
  have lB := tB.lt
  have kA := rA.lt
  have kB := rB.lt
  have hρ : ∀ (g : Nat) (r : Wb.Ro), (if g = w6.heap.size then some Wb.Ro.book else none) = some r → r = .book := fun g r e => by
    split at e
    · exact (Option.some.inj e).symm
    · cases e
  have bk : Wb.Bk w7 w6.heap.size (fun j => if j = w6.heap.size then some .book else none) ⟨ptr qa, ptr qb, ptr ya, ptr yb, .slice none 0 0, .slice none 0 0, .slice none 0 0, false, [], [], [], [], [], 0⟩ := by
    refine ⟨r7, if_pos rfl, fun j r hr => ?_, ?_, ?_, ?_⟩
    · have hj : j = w6.heap.size := by
        by_cases e : j = w6.heap.size
        · exact e
        · rw [if_neg e] at hr; cases hr
      omega
    · exact ⟨Own.nil _ _, fun k e => (by cases e), fun g i l e => (by have := hρ g _ e; cases this), fun n s e => (by simp at e)⟩
    · exact ⟨Own.nil _ _, fun k e => (by cases e), rfl, fun k u L h0 h1 => (by simp at h1)⟩
    · exact ⟨Own.nil _ _, fun k e => (by cases e), rfl, fun k u L h0 h1 => (by simp at h1)⟩
  have rn : ∀ k, k < w6.heap.size → (if k = w6.heap.size then some Wb.Ro.book else none) = none := fun k hk => if_neg (by omega)
  have tw : Tw w7 w6.heap.size (fun j => if j = w6.heap.size then some .book else none) ⟨ptr qa, ptr qb, ptr ya, ptr yb, .slice none 0 0, .slice none 0 0, .slice none 0 0, false, [], [], [], [], [], 0⟩ (st0 qa ya ha qb yb hb Fa Ga Fb' Gb) := by
    refine ⟨bk, rfl, rfl, rfl, rfl, fun c => ?_, fun c => ?_, fun c k hk => rn k ?_, fun c k hk => rn k ?_, fun c d k hk e => ?_, fun c d k hcd hk e => ?_, fun c d k hcd hk e => ?_, fun k hk => hk.elim⟩
    · cases c
      · exact tA.below c17
      · exact tB.below c27
    · cases c
      · exact rA.below c37
      · exact rB.below c67
    · cases c
      · have := lA k hk; omega
      · have := lB k hk; omega
    · cases c
      · have := kA k hk; omega
      · have := kB k hk; omega
    · cases c <;> cases d
      · have := lA k hk; have := mA k e; omega
      · have := lA k hk; have := mB k e; omega
      · have := lB k hk; have := mA k e; omega
      · have := lB k hk; have := mB k e; omega
    · cases c <;> cases d
      · exact hcd rfl
      · have := lA k hk; have := nB k e; omega
      · have := nB k hk; have := lA k e; omega
      · exact hcd rfl
    · cases c <;> cases d
      · exact hcd rfl
      · have := kA k hk; have := mB k e; omega
      · have := mB k hk; have := kA k e; omega
      · exact hcd rfl
  refine ⟨⟨_, _, _, tw, ⟨⟨0, rfl, by simp⟩, rfl, rfl, fun L hL => (by cases hL)⟩, fun c => ?_, ⟨_, _, _, tA.below c17, .inl ⟨rfl, rfl, rfl, rfl⟩⟩, fun c k hk => ?_, fun c k hk => ?_⟩, b0.trans (c07.mono s0), by omega⟩
  · cases c <;> exact Nat.le_refl _
  · cases c
    · have := nA k hk; omega
    · have := nB k hk; omega
  · cases c
    · have := mA k hk; omega
    · have := mB k hk; omega
end Go.Proofs.YtfddkmkibfmmgaaDoor

namespace Go.Proofs.YtfddkmkibfmmgaaDoor
open Go.ChangeShapes Go.WideShapes Go.ChangeAt Go.RowKit
theorem gDB : Tryd.prog.globalNamed "math/bits.deBruijn64tab" = some 3 := by kernel_rfl
theorem gDBType : (Tryd.prog.globals[3]?).map (·.type) = some 104 := by kernel_rfl
theorem cells64b : Tryd.prog.cellsOf 104 = 64 := by kernel_rfl
theorem cells1b : Tryd.prog.cellsOf 5 = 1 := by kernel_rfl
def four : List (String × DataW Unit) := [("math/bits.deBruijn32tab", Rows.laid_math_bits_deBruijn32tab), ("math/bits.deBruijn64tab", Rows.laid_math_bits_deBruijn64tab), ("scrivener/digest.start", Rows.laid_scrivener_digest_start), ("scrivener/digest.rounds", Rows.laid_scrivener_digest_rounds)]
theorem tb_of {W : World} (h : laidMet Tryd.prog four W) : Tb W := by
  have h1 := laidMet.tail h
  have h2 : Lib.TabIs Tryd.prog W "math/bits.deBruijn64tab" .u8 (Lib.deBruijn64tab.map Int.ofNat) :=
    Lib.tabIs_of_head gDB gDBType Tryd.underlying104 Tryd.underlying5 cells1b cells64b (show laidMet Tryd.prog (("math/bits.deBruijn64tab", Lib.tabData .u8 (Lib.deBruijn64tab.map Int.ofNat)) :: _) W from h1)
  refine ⟨tabs_of (laidMet.tail h1) (block_lt_of_cell (h2.cell gDB 0 (by decide))), fun j hj => ?_⟩
  have := h2.cell gDB j (by rw [List.length_map]; exact hj)
  rw [this]
  simp [List.getD_eq_getElem?_getD]
  rw [List.getElem?_eq_getElem (show j < Lib.deBruijn64tab.length from hj)]; simp
/-- A WORLD FOR THE WITNESS: all four tables laid. -/
noncomputable def laidWorld5 (os : Os) : World :=
  { laidWorld os with
    heap := ((laidWorld os).heap.modify 2 (fillObj (Lib.deBruijn32tab.map fun n => Value.int .u8 (Int.ofNat n)).toArray)).modify 3 (fillObj (Lib.deBruijn64tab.map fun n => Value.int .u8 (Int.ofNat n)).toArray) }
end Go.Proofs.YtfddkmkibfmmgaaDoor

namespace Go.Proofs.YtfddkmkibfmmgaaDoor
open Go.ChangeShapes Go.WideShapes Go.ChangeAt Go.RowKit Go.Deep
/-- a list of steps, wherever it lies -/
def SlcO (w : World) (v : Value) (n : Nat) : Prop :=
  ∃ (a : Option Addr) (cap : Nat), v = .slice a n cap ∧ ∀ j, j < n → ∃ (x : Addr) (o kp : Bool) (kd nn mm : Int) (s : List UInt8), a = some x ∧ x.block < w.heap.size ∧ w.cell? (x.add (j * 6)) = some (.bool o) ∧ w.cell? (x.add (j * 6 + 1)) = some (.bool kp) ∧ w.cell? (x.add (j * 6 + 2)) = some (.int .i64 kd) ∧
    w.cell? (x.add (j * 6 + 3)) = some (.int .i64 nn) ∧ w.cell? (x.add (j * 6 + 4)) = some (.int .i64 mm) ∧ w.cell? (x.add (j * 6 + 5)) = some (.string ⟨s.toArray⟩) ∧ (-9223372036854775808 ≤ nn ∧ nn ≤ 9223372036854775807) ∧ (-9223372036854775808 ≤ mm ∧ mm ≤ 9223372036854775807)
theorem addBlk (x : Addr) (j : Nat) : (x.add j).block = x.block := by unfold Addr.add; split <;> rfl
theorem cellsOp7 : Tryd.prog.cellsOf 69 = 6 := by kernel_rfl
theorem cellsB7 : Tryd.prog.cellsOf 4 = 1 := by kernel_rfl
theorem cellsI7 : Tryd.prog.cellsOf 3 = 1 := by kernel_rfl
theorem cellsS7 : Tryd.prog.cellsOf 9 = 1 := by kernel_rfl
theorem structOp7 : ∃ f0 f1 f2 f3 f4 f5 : Field, Tryd.prog.underlying 69 = some (.struct #[f0, f1, f2, f3, f4, f5]) ∧ f0.offset = 0 ∧ f1.offset = 1 ∧ f2.offset = 2 ∧ f3.offset = 3 ∧ f4.offset = 4 ∧ f5.offset = 5 ∧
    f0.type = 4 ∧ f1.type = 4 ∧ f2.type = 3 ∧ f3.type = 3 ∧ f4.type = 3 ∧ f5.type = 9 :=
  ⟨_, _, _, _, _, _, Tryd.underlying69, rfl, rfl, rfl, rfl, rfl, rfl, rfl, rfl, rfl, rfl, rfl, rfl⟩
set_option maxRecDepth 100000 in
theorem open_slcO {H : Type} {enc : TypeId × Value → H} {W : World} {base : Nat} {v : Value} {d : DataW H} {p : List MemPlace}
    (hval : Value.okWide Tryd.prog W .any base 54 v) (hd : DataW.Trod enc Tryd.prog W 0 (fun _ => true) true 54 v d p) :
    ∃ n, SlcO W v n ∧ n ≤ 9223372036854775807 := by
  obtain ⟨a0, len0, cap0, rfl⟩ := okWide_slice Tryd.underlying54 hval
  obtain ⟨fuel, hf⟩ := hd
  rcases open_slice Tryd.underlying54 hf with ⟨hcs, hx⟩ | ⟨a, len, cap, m, k, D, Pl, hcs, _, hl, hm, hmm, hx, hel⟩
  · simp [Value.cells] at hcs
    obtain ⟨rfl, rfl, rfl⟩ := hcs
    exact ⟨0, ⟨none, 0, rfl, fun j hj => by omega⟩, by omega⟩
  · simp [Value.cells] at hcs
    obtain ⟨rfl, rfl, rfl⟩ := hcs
    simp only [if_true] at hmm
    have hmx := (show maxLen = 9223372036854775807 from rfl)
    refine ⟨len0, ⟨some a, cap0, rfl, fun j hj => ?_⟩, by omega⟩
    obtain ⟨cs', h1, h2⟩ := hel j (by omega)
    rw [cellsOp7] at h1
    obtain ⟨_, hlen, hcell⟩ := World.cells?_some h1
    obtain ⟨f0, f1, f2, f3, f4, f5, he, o0, o1, o2, o3, o4, o5, t0, t1, t2, t3, t4, t5⟩ := structOp7
    obtain ⟨xs, k', hk', hxy, _, hxl, hf⟩ := DataW.trod_struct he h2
    match xs, hxl, cs', hlen with
    | [y0, y1, y2, y3, y4, y5], _, [v0, v1, v2, v3, v4, v5], _ =>
      have g0 := hf 0 f0 rfl
      have g1 := hf 1 f1 rfl
      have g2 := hf 2 f2 rfl
      have g3 := hf 3 f3 rfl
      have g4 := hf 4 f4 rfl
      have g5 := hf 5 f5 rfl
      simp [o0, t0, cellsB7] at g0
      simp [o1, t1, cellsB7] at g1
      simp [o2, t2, cellsI7] at g2
      simp [o3, t3, cellsI7] at g3
      simp [o4, t4, cellsI7] at g4
      simp [o5, t5, cellsS7] at g5
      have e0 := hcell 0 (by omega)
      have e1 := hcell 1 (by omega)
      have e2 := hcell 2 (by omega)
      have e3 := hcell 3 (by omega)
      have e4 := hcell 4 (by omega)
      have e5 := hcell 5 (by omega)
      rw [add_add] at e0 e1 e2 e3 e4 e5
      obtain ⟨b0, hv0, _⟩ := DataW.trod_bool Tryd.underlying4 g0
      obtain ⟨b1, hv1, _⟩ := DataW.trod_bool Tryd.underlying4 g1
      obtain ⟨kd, hv2, _, _⟩ := DataW.trod_int Tryd.underlying3 g2
      obtain ⟨nn, hv3, _, hw3⟩ := DataW.trod_int Tryd.underlying3 g3
      obtain ⟨mm, hv4, _, hw4⟩ := DataW.trod_int Tryd.underlying3 g4
      obtain ⟨s, hv5, hy5, _⟩ := DataW.trod_string Tryd.underlying9 g5
      cases hv0; cases hv1; cases hv2; cases hv3; cases hv4; cases hv5
      have hb := block_lt_of_cell e0
      rw [addBlk] at hb
      exact ⟨a, b0, b1, kd, nn, mm, s.data.toList, rfl, hb, by simpa using e0, by simpa using e1, by simpa using e2, by simpa using e3, by simpa using e4, by simpa using e5, wf_i64 hw3, wf_i64 hw4⟩
end Go.Proofs.YtfddkmkibfmmgaaDoor
