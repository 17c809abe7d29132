import Derived.Test.YtonmhimoglgbgaaDoorY6
import Derived.Test.YtonmhimoglgbgaaDoorY7
namespace Go.Proofs.YtonmhimoglgbgaaDoor
open Go.RowKit Cod

def Rel (ws : WSt) (S : List UInt8) (E : Int) : Prop := E = ws.err ∧ (E = 0 → S = ws.text)
/-- their blocks -/
def PS (WB XB : Nat) (v : Value) : Nat → Prop := fun k => WS WB v k ∨ k = XB
theorem rel_put {ws : WSt} {S l : List UInt8} {E e : Int} (h : Rel ws S E) (hw : ∀ f, ws = .bad f → f ≠ 0) : Rel (ws.put e l) (if e = 0 then S ++ l else S) (if e = 0 then E else fstE E e) := by
  obtain ⟨h1, h2⟩ := h
  cases ws with
  | ok bs =>
    have hE : E = 0 := h1
    have hS := h2 hE
    by_cases he : e = 0
    · rw [if_pos he, if_pos he, WSt.put, if_pos he]
      exact ⟨hE, fun _ => by rw [hS]; rfl⟩
    · rw [if_neg he, if_neg he, WSt.put, if_neg he, fstE, if_pos hE]
      exact ⟨rfl, fun h => absurd h he⟩
  | bad f =>
    have hf := hw f rfl
    have hE : E = f := h1
    have hE0 : E ≠ 0 := by rw [hE]; exact hf
    by_cases he : e = 0
    · rw [if_pos he, if_pos he]
      exact ⟨hE, fun h => absurd h hE0⟩
    · rw [if_neg he, if_neg he, fstE, if_neg hE0]
      exact ⟨hE, fun h => absurd h hE0⟩
theorem Wri.nz {w : World} {B b : Nat} {v : Value} {ws : WSt} (h : Wri w B b v ws) : ∀ f, ws = .bad f → f ≠ 0 := fun f hf => by subst hf; exact h.2.2.2
theorem Keep.ps_trans {w w1 w2 : World} {WB XB : Nat} {v v1 : Value} (h : Keep (PS WB XB v) w w1) (k : Keep (PS WB XB v1) w1 w2) (hf : From w v v1) : Keep (PS WB XB v) w w2 :=
  h.trans k fun j hj e => by
    rcases e with (rfl | e) | rfl
    · exact .inl (.inl rfl)
    · rcases hf j e with h1 | h1
      · exact .inl (.inr h1)
      · omega
    · exact .inr rfl
theorem rel_text {ws : WSt} {S : List UInt8} {E : Int} (h : Rel ws S E) : (if E = 0 then S else []) = ws.text := by
  by_cases hE : E = 0
  · rw [if_pos hE]; exact h.2 hE
  · rw [if_neg hE]
    cases ws with
    | ok bs => exact absurd h.1 hE
    | bad f => rfl
theorem put_len (S l : List UInt8) (e : Int) : (if e = 0 then S ++ l else S).length ≤ S.length + l.length := by
  split
  · rw [List.length_append]; omega
  · omega
/-- the steps' arguments -/
abbrev pV (WB XB : Nat) : Value := .agg #[.pointer (some ⟨WB, 0, none⟩), .pointer (some ⟨XB, 0, none⟩)]
abbrev oV (o kp : Bool) (kd n m : Int) (s : ByteArray) (lv tv : Value) : Value := .agg #[.bool o, .bool kp, .int .i64 kd, .int .i64 n, .int .i64 m, .string s, lv, tv]
theorem lay_keep {w w' : World} {K : Nat → Prop} (h : Lay w) (hb : Keep K w w') (hK : ¬ K 0) : Lay w' := by
  have e := World.cell?_of_block (w := w) (w' := w') (a := ⟨0, 0, none⟩) (hb.block _ h.lt hK)
  exact e.trans h
end Go.Proofs.YtonmhimoglgbgaaDoor
