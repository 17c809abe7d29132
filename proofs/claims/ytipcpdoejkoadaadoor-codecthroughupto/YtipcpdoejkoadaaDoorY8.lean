import Derived.Test.YtipcpdoejkoadaaDoorY6
import Derived.Test.YtipcpdoejkoadaaDoorY7
namespace Go.Proofs.YtipcpdoejkoadaaDoor
open Go.RowKit Cod

def Rel (ws : WSt) (S : List UInt8) (E : Int) : Prop := E = ws.err ∧ (E = 0 → S = ws.text)
/-- a Writer and the document's -/
structure Twin (wr : World) (B WB XB : Nat) (v : Value) (ws : WSt) (S : List UInt8) (E : Int) : Prop where
  wri : Wri wr B WB v ws
  rw : RWr wr XB S E
  ap : ¬ WS WB v XB
  lo : B ≤ XB
  sz : B ≤ wr.heap.size
  rel : Rel ws S E
/-- their blocks -/
def PS (WB XB : Nat) (v : Value) : Nat → Prop := fun k => WS WB v k ∨ k = XB
theorem Twin.below {w w' : World} {B WB XB : Nat} {v : Value} {ws : WSt} {S : List UInt8} {E : Int} (T : Twin w B WB XB v ws S E) (h : Below w.heap.size w w') : Twin w' B WB XB v ws S E :=
  ⟨T.wri.below h, T.rw.below h, T.ap, T.lo, Nat.le_trans T.sz h.size, T.rel⟩
theorem Twin.keep {w w' : World} {B WB XB : Nat} {v : Value} {ws : WSt} {S : List UInt8} {E : Int} {K : Nat → Prop} (T : Twin w B WB XB v ws S E) (h : Keep K w w') (hK : ∀ k, PS WB XB v k → ¬ K k) : Twin w' B WB XB v ws S E :=
  ⟨T.wri.keep h (fun k hk => hK k (.inl hk)), T.rw.keep h (hK XB (.inr rfl)), T.ap, T.lo, Nat.le_trans T.sz h.size, T.rel⟩
theorem Twin.ge {w : World} {B WB XB : Nat} {v : Value} {ws : WSt} {S : List UInt8} {E : Int} (T : Twin w B WB XB v ws S E) : ∀ k, PS WB XB v k → B ≤ k ∧ k < w.heap.size := fun k hk => by
  rcases hk with hk | rfl
  · exact T.wri.in k hk
  · exact ⟨T.lo, T.rw.lt⟩
theorem Twin.len {w : World} {B WB XB : Nat} {v : Value} {ws : WSt} {S : List UInt8} {E : Int} (T : Twin w B WB XB v ws S E) {D : Nat} (h : S.length + D ≤ 140737488355328) : ∀ bs, ws = .ok bs → bs.length + D ≤ 140737488355328 := fun bs hb => by
  subst hb
  have := T.rel.2 T.rel.1
  rw [this] at h
  exact h
theorem rel_put {ws : WSt} {S l : List UInt8} {E e : Int} (h : Rel ws S E) (hw : ∀ f, ws = .bad f → f ≠ 0) : Rel (ws.put e l) (if e = 0 then S ++ l else S) (if e = 0 then E else fstE E e) := by
  obtain ⟨h1, h2⟩ := h
  cases ws with
  | ok bs =>
    have hE : E = 0 := h1
    have hS := h2 hE
    by_cases he : e = 0
    · rw [if_pos he, if_pos he, WSt.put, if_pos he]
      exact ⟨hE, fun _ => by rw [hS]; rfl⟩
    · rw [if_neg he, if_neg he, WSt.put, if_neg he, fstE, if_pos hE]
      exact ⟨rfl, fun h => absurd h he⟩
  | bad f =>
    have hf := hw f rfl
    have hE : E = f := h1
    have hE0 : E ≠ 0 := by rw [hE]; exact hf
    by_cases he : e = 0
    · rw [if_pos he, if_pos he]
      exact ⟨hE, fun h => absurd h hE0⟩
    · rw [if_neg he, if_neg he, fstE, if_neg hE0]
      exact ⟨hE, fun h => absurd h hE0⟩
theorem Wri.nz {w : World} {B b : Nat} {v : Value} {ws : WSt} (h : Wri w B b v ws) : ∀ f, ws = .bad f → f ≠ 0 := fun f hf => by subst hf; exact h.2.2.2
theorem Twin.both {w w1 w2 : World} {B WB XB : Nat} {v v1 : Value} {ws : WSt} {S l : List UInt8} {E e : Int} {r2 : Ending} (T : Twin w B WB XB v ws S E)
    (h1 : Wri w1 B WB v1 (ws.put e l)) (h2 : Keep (WS WB v) w w1) (h3 : From w v v1) (h4 : RPut w1 XB S E e l r2 w2) :
    Twin w2 B WB XB v1 (ws.put e l) (if e = 0 then S ++ l else S) (if e = 0 then E else fstE E e) ∧ Keep (PS WB XB v) w w2 ∧ From w v v1 := by
  have hap : ¬ WS WB v1 XB := fun hh => by
    rcases hh with hh | hh
    · exact T.ap (.inl hh)
    · rcases h3 _ hh with h | h
      · exact T.ap (.inr h)
      · have := T.rw.lt; omega
  refine ⟨⟨h1.keep (S := fun k => k = XB) (Keep.ofBut h4.2.2 rfl) (fun k hk e => hap (e ▸ hk)), h4.2.1, hap, T.lo, Nat.le_trans T.sz (Nat.le_trans h2.size h4.2.2.size), rel_put T.rel T.wri.nz⟩, ?_, h3⟩
  refine Keep.trans (S := PS WB XB v) (h2.mono (fun _ _ h => .inl h)) (Keep.ofBut (S := fun k => k = XB) h4.2.2 rfl) (fun j _ h => .inr h)
theorem Twin.mid {w w1 : World} {B WB XB : Nat} {v v1 : Value} {ws ws1 : WSt} {S : List UInt8} {E : Int} (T : Twin w B WB XB v ws S E) (h2 : Keep (WS WB v) w w1) (_ : Wri w1 B WB v1 ws1) : RWr w1 XB S E := T.rw.keep h2 T.ap
theorem Keep.ps_trans {w w1 w2 : World} {WB XB : Nat} {v v1 : Value} (h : Keep (PS WB XB v) w w1) (k : Keep (PS WB XB v1) w1 w2) (hf : From w v v1) : Keep (PS WB XB v) w w2 :=
  h.trans k fun j hj e => by
    rcases e with (rfl | e) | rfl
    · exact .inl (.inl rfl)
    · rcases hf j e with h1 | h1
      · exact .inl (.inr h1)
      · omega
    · exact .inr rfl
theorem rel_text {ws : WSt} {S : List UInt8} {E : Int} (h : Rel ws S E) : (if E = 0 then S else []) = ws.text := by
  by_cases hE : E = 0
  · rw [if_pos hE]; exact h.2 hE
  · rw [if_neg hE]
    cases ws with
    | ok bs => exact absurd h.1 hE
    | bad f => rfl
theorem put_len (S l : List UInt8) (e : Int) : (if e = 0 then S ++ l else S).length ≤ S.length + l.length := by
  split
  · rw [List.length_append]; omega
  · omega
/-- what a step leaves -/
def SPost (w : World) (B WB XB : Nat) (v : Value) (S : List UInt8) (r : Ending) (w' : World) : Prop :=
  r = .returned (.bool true) ∧ ∃ v' ws' S' E', Twin w' B WB XB v' ws' S' E' ∧ Keep (PS WB XB v) w w' ∧ From w v v' ∧ S'.length ≤ S.length + 60000000
/-- the steps' arguments -/
abbrev pV (WB XB : Nat) : Value := .agg #[.pointer (some ⟨WB, 0, none⟩), .pointer (some ⟨XB, 0, none⟩)]
abbrev oV (o kp : Bool) (kd n m : Int) (s : ByteArray) (lv tv : Value) : Value := .agg #[.bool o, .bool kp, .int .i64 kd, .int .i64 n, .int .i64 m, .string s, lv, tv]
/-- both of them boxed, from block P on -/
structure Boxes (wr : World) (P WB XB : Nat) (O : Array Value) : Prop where
  rP : wr.heap[P]? = some (.cells #[.pointer (some ⟨WB, 0, none⟩), .pointer (some ⟨XB, 0, none⟩)] 61 (0, 0))
  rO : wr.heap[P + 1]? = some (.cells O 63 (0, 0))
theorem Boxes.cells {wr : World} {P WB XB : Nat} {o kp : Bool} {kd n m : Int} {s : ByteArray} {lv tv : Value} (h : Boxes wr P WB XB #[.bool o, .bool kp, .int .i64 kd, .int .i64 n, .int .i64 m, .string s, lv, tv]) :
    wr.cell? ⟨P, 0, none⟩ = some (.pointer (some ⟨WB, 0, none⟩)) ∧ wr.cell? ⟨P, 1, none⟩ = some (.pointer (some ⟨XB, 0, none⟩)) ∧ wr.cell? ⟨P + 1, 1, none⟩ = some (.bool kp) ∧ wr.cell? ⟨P + 1, 2, none⟩ = some (.int .i64 kd) ∧ wr.cell? ⟨P + 1, 3, none⟩ = some (.int .i64 n) ∧
      wr.cell? ⟨P + 1, 4, none⟩ = some (.int .i64 m) ∧ wr.cell? ⟨P + 1, 5, none⟩ = some (.string s) ∧ wr.cell? ⟨P + 1, 6, none⟩ = some lv ∧ wr.cell? ⟨P + 1, 7, none⟩ = some tv :=
  ⟨by rw [cell_of_row _ _ _ _ _ _ h.rP]; rfl, by rw [cell_of_row _ _ _ _ _ _ h.rP]; rfl, by rw [cell_of_row _ _ _ _ _ _ h.rO]; rfl, by rw [cell_of_row _ _ _ _ _ _ h.rO]; rfl, by rw [cell_of_row _ _ _ _ _ _ h.rO]; rfl, by rw [cell_of_row _ _ _ _ _ _ h.rO]; rfl, by rw [cell_of_row _ _ _ _ _ _ h.rO]; rfl, by rw [cell_of_row _ _ _ _ _ _ h.rO]; rfl, by rw [cell_of_row _ _ _ _ _ _ h.rO]; rfl⟩
theorem Boxes.keep {K : Nat → Prop} {w w' : World} {P WB XB : Nat} {O : Array Value} (h : Boxes w P WB XB O) (hb : Keep K w w') (h1 : ¬ K P) (h2 : ¬ K (P + 1)) : Boxes w' P WB XB O :=
  ⟨(hb.block _ (lt_of_heap h.rP) h1).trans h.rP, (hb.block _ (lt_of_heap h.rO) h2).trans h.rO⟩
/-- a step on its way -/
structure Way (Fo : Nat → Prop) (w : World) (B WB XB : Nat) (v : Value) (O : Array Value) (wr : World) (v' : Value) (ws : WSt) (S : List UInt8) (E : Int) : Prop where
  tw : Twin wr B WB XB v' ws S E
  bx : Boxes wr w.heap.size WB XB O
  kp : Keep (PS WB XB v) w wr
  fr : From w v v'
  hi : ∀ k, Fo k → ¬ PS WB XB v' k ∧ k < wr.heap.size ∧ w.heap.size ≤ k
  foP : Fo w.heap.size ∧ Fo (w.heap.size + 1)
  ge : ∀ k, PS WB XB v k → B ≤ k
  lay : Lay wr
  pos : 1 ≤ w.heap.size
theorem lay_keep {w w' : World} {K : Nat → Prop} (h : Lay w) (hb : Keep K w w') (hK : ¬ K 0) : Lay w' := by
  have e := World.cell?_of_block (w := w) (w' := w') (a := ⟨0, 0, none⟩) (hb.block _ h.lt hK)
  exact e.trans h
theorem Way.below {Fo : Nat → Prop} {w : World} {B WB XB : Nat} {v : Value} {O : Array Value} {wr : World} {v' : Value} {ws : WSt} {S : List UInt8} {E : Int} (D : Way Fo w B WB XB v O wr v' ws S E) {w2 : World} (h : Below wr.heap.size wr w2) : Way Fo w B WB XB v O w2 v' ws S E :=
  ⟨D.tw.below h, D.bx.keep (K := fun _ => False) (Keep.ofBelow h) (fun h => h) (fun h => h), D.kp.trans (T := fun _ => False) (Keep.ofBelow h) (fun _ _ h => h.elim), D.fr, fun k hk => ⟨(D.hi k hk).1, Nat.lt_of_lt_of_le (D.hi k hk).2.1 h.size, (D.hi k hk).2.2⟩, D.foP, D.ge, lay_keep (K := fun _ => False) D.lay (Keep.ofBelow h) (fun h => h), D.pos⟩
theorem Way.half {Fo : Nat → Prop} {w : World} {B WB XB : Nat} {v : Value} {O : Array Value} {wr : World} {v' : Value} {ws : WSt} {S : List UInt8} {E : Int} (D : Way Fo w B WB XB v O wr v' ws S E) {w2 : World} (h : Keep (WS WB v') wr w2) : Boxes w2 w.heap.size WB XB O :=
  D.bx.keep h (fun e => (D.hi _ D.foP.1).1 (.inl e)) (fun e => (D.hi _ D.foP.2).1 (.inl e))
theorem Way.both {Fo : Nat → Prop} {w : World} {B WB XB : Nat} {v : Value} {O : Array Value} {wr : World} {v' : Value} {ws : WSt} {S l : List UInt8} {E e : Int} (D : Way Fo w B WB XB v O wr v' ws S E) (hB : 1 ≤ B) {w1 w2 : World} {v1 : Value} {r2 : Ending}
    (h1 : Wri w1 B WB v1 (ws.put e l)) (h2 : Keep (WS WB v') wr w1) (h3 : From wr v' v1) (h4 : RPut w1 XB S E e l r2 w2) :
    Way Fo w B WB XB v O w2 v1 (ws.put e l) (if e = 0 then S ++ l else S) (if e = 0 then E else fstE E e) := by
  obtain ⟨g1, g2, g3⟩ := D.tw.both h1 h2 h3 h4
  have hge : ∀ k, PS WB XB v' k → B ≤ k := fun k hk => (D.tw.ge k hk).1
  refine ⟨g1, D.bx.keep g2 (fun e => (D.hi _ D.foP.1).1 e) (fun e => (D.hi _ D.foP.2).1 e), D.kp.ps_trans g2 D.fr, D.fr.trans g3 D.kp.size, ?_, D.foP, D.ge, lay_keep D.lay g2 (fun e => by have := hge _ e; omega), D.pos⟩
  intro k hk
  obtain ⟨q1, q2, q3⟩ := D.hi k hk
  refine ⟨fun hp => ?_, Nat.lt_of_lt_of_le q2 g2.size, q3⟩
  rcases hp with (rfl | hp) | rfl
  · exact q1 (.inl (.inl rfl))
  · rcases g3 k hp with h | h
    · exact q1 (.inl (.inr h))
    · omega
  · exact q1 (.inr rfl)
/-- a new block is set apart -/
theorem Way.add {Fo : Nat → Prop} {w : World} {B WB XB : Nat} {v : Value} {O : Array Value} {wr : World} {v' : Value} {ws : WSt} {S : List UInt8} {E : Int} (D : Way Fo w B WB XB v O wr v' ws S E) {w2 : World} (h : Below wr.heap.size wr w2) {g : Nat} (h1 : wr.heap.size ≤ g) (h2 : g < w2.heap.size) :
    Way (fun k => Fo k ∨ k = g) w B WB XB v O w2 v' ws S E := by
  have D2 := D.below h
  refine ⟨D2.tw, D2.bx, D2.kp, D2.fr, fun k hk => ?_, ⟨.inl D2.foP.1, .inl D2.foP.2⟩, D2.ge, D2.lay, D2.pos⟩
  rcases hk with hk | rfl
  · exact D2.hi k hk
  · exact ⟨fun hp => by have := (D.tw.ge _ hp).2; omega, h2, Nat.le_trans D.kp.size h1⟩
/-- memory that is newer than all of them changes -/
theorem Way.new {Fo K : Nat → Prop} {w : World} {B WB XB : Nat} {v : Value} {O : Array Value} {wr : World} {v' : Value} {ws : WSt} {S : List UInt8} {E : Int} (D : Way Fo w B WB XB v O wr v' ws S E) {w2 : World} (h : Keep K wr w2) (hK : ∀ k, K k → ¬ PS WB XB v' k ∧ ¬ Fo k ∧ w.heap.size ≤ k) :
    Way Fo w B WB XB v O w2 v' ws S E := by
  refine ⟨D.tw.keep h (fun k hp e => (hK k e).1 hp), D.bx.keep h (fun e => (hK _ e).2.1 D.foP.1) (fun e => (hK _ e).2.1 D.foP.2), D.kp.trans h (fun j hj e => by have := (hK j e).2.2; omega), D.fr, fun k hk2 => ⟨(D.hi k hk2).1, Nat.lt_of_lt_of_le (D.hi k hk2).2.1 h.size, (D.hi k hk2).2.2⟩, D.foP, D.ge, lay_keep D.lay h (fun e => ?_), D.pos⟩
  have h3 := (hK _ e).2.2
  have := D.pos
  omega
/-- what was set apart changes -/
theorem Way.but {Fo : Nat → Prop} {w : World} {B WB XB : Nat} {v : Value} {O : Array Value} {wr : World} {v' : Value} {ws : WSt} {S : List UInt8} {E : Int} (D : Way Fo w B WB XB v O wr v' ws S E) {w2 : World} {g : Nat} (h : But g wr w2) (hg : Fo g) (h1 : g ≠ w.heap.size) (h2 : g ≠ w.heap.size + 1) :
    Way Fo w B WB XB v O w2 v' ws S E := by
  have hk : Keep (fun k => k = g) wr w2 := Keep.ofBut h rfl
  refine ⟨D.tw.keep hk (fun k hp e => (D.hi g hg).1 (e ▸ hp)), D.bx.keep hk (fun e => h1 e.symm) (fun e => h2 e.symm), D.kp.trans hk (fun j hj e => by have := (D.hi g hg).2.2; omega), D.fr, fun k hk2 => ⟨(D.hi k hk2).1, Nat.lt_of_lt_of_le (D.hi k hk2).2.1 h.size, (D.hi k hk2).2.2⟩, D.foP, D.ge, lay_keep D.lay hk (fun e => ?_), D.pos⟩
  have h3 := (D.hi g hg).2.2
  have h4 := D.tw.sz
  have h5 := D.lay.lt
  have h6 := lt_of_heap D.bx.rP
  have e' : 0 = g := e
  have := D.pos
  omega
theorem Way.start {w : World} {B WB XB : Nat} {v : Value} {ws : WSt} {S : List UInt8} {E : Int} (T : Twin w B WB XB v ws S E) (hL : Lay w) (O : Array Value) :
    Way (fun k => k = w.heap.size ∨ k = w.heap.size + 1) w B WB XB v O ((w.alloc (.cells #[.pointer (some ⟨WB, 0, none⟩), .pointer (some ⟨XB, 0, none⟩)] 61)).alloc (.cells O 63)) v ws S E := by
  have hs1 := size_alloc w (.cells #[.pointer (some ⟨WB, 0, none⟩), .pointer (some ⟨XB, 0, none⟩)] 61)
  have bw : Below w.heap.size w ((w.alloc (.cells #[.pointer (some ⟨WB, 0, none⟩), .pointer (some ⟨XB, 0, none⟩)] 61)).alloc (.cells O 63)) := ((Below.refl _ _).alloc (Nat.le_refl _) _).alloc (by omega) _
  refine ⟨T.below bw, ⟨?_, heap_alloc_at _ _ _ hs1⟩, Keep.ofBelow bw, From.refl _ _, fun k hk => ?_, ⟨.inl rfl, .inr rfl⟩, fun k hk => (T.ge k hk).1, hL.below bw hL.lt, hL.lt⟩
  · rw [Below.heap_alloc _ _ _ (by omega)]; exact heap_alloc_new w _
  · have hs2 := size_alloc (w.alloc (.cells #[.pointer (some ⟨WB, 0, none⟩), .pointer (some ⟨XB, 0, none⟩)] 61)) (.cells O 63)
    refine ⟨fun hp => ?_, ?_, ?_⟩
    · have := (T.ge k hp).2; omega
    · omega
    · omega
theorem Way.post {Fo : Nat → Prop} {w : World} {B WB XB : Nat} {v : Value} {O : Array Value} {wr : World} {v' : Value} {ws : WSt} {S S0 : List UInt8} {E : Int} (D : Way Fo w B WB XB v O wr v' ws S E) (h : S.length ≤ S0.length + 60000000) : SPost w B WB XB v S0 (.returned (.bool true)) wr :=
  ⟨rfl, v', ws, S, E, D.tw, D.kp, D.fr, h⟩
end Go.Proofs.YtipcpdoejkoadaaDoor
