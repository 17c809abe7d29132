import Derived.Test.YtonmhimoglgbgaaDoorG4
import Derived.Test.YtonmhimoglgbgaaDoorE1
namespace Go.Proofs.YtonmhimoglgbgaaDoor
open Go.RowKit Cod

def WSt.text : WSt → List UInt8
  | .ok bs => bs
  | .bad _ => []
def WSt.err : WSt → Int
  | .ok _ => 0
  | .bad e => e
theorem conv_nil (w : World) : (convert 57 9 (.slice none 0 0)).run Tryd.prog w = .ok (.string ⟨#[]⟩) w := by kernel_rfl
theorem conv_any {w : World} {base : Nat} {v : Value} {bs : List UInt8} (h : OwnB w base v bs) : (convert 57 9 v).run Tryd.prog w = .ok (sv bs) w := by
  by_cases hn : v = .slice none 0 0
  · subst hn
    have hbs : bs = [] := by
      rcases h with ⟨_, h⟩ | ⟨g, cap, h, _⟩
      · simpa [bv] using h
      · cases h
    subst hbs
    exact conv_nil w
  · exact conv_own h hn

set_option maxRecDepth 100000 in
set_option maxHeartbeats 1000000 in
theorem wDone_any (base b : Nat) (v : Value) (st : WSt) (w : World) (T : Lay w) (hW : Wri w base b v st) :
    Calls Tryd.prog 8 #[.pointer (some ⟨b, 0, none⟩)] w fun r w' => r = .returned (.tuple #[sv st.text, .int .i64 st.err]) ∧ Below w.heap.size w w' := by
  have hl := hW.lt
  have hT := T.lt
  have HT := hid T
  have bw : Below w.heap.size w (w.alloc (.cells #[.int .i64 0, .int .i64 0] 70)) := (Below.refl _ _).alloc (Nat.le_refl _) _
  have W1 := hW.below bw
  have T1 := hid (T.below bw hT)
  have hrow := heap_alloc_new w (.cells #[.int .i64 0, .int .i64 0] 70)
  have hsz := size_alloc w (.cells #[.int .i64 0, .int .i64 0] 70)
  have HW := hid hW
  have BW := hid bw
  clear hW T bw
  go_enter Tryd.func8, Tryd.ntmps8
  cases st with
  | bad f =>
    have c1 : (w.alloc (.cells #[.int .i64 0, .int .i64 0] 70)).cell? ⟨b, 1, none⟩ = some (.iface 70 (.agg #[.int .i64 f, .int .i64 0])) := by rw [cell_of_row _ _ _ _ _ _ W1.2.1]; rfl
    have HR := hid hrow
    clear W1 hrow
    go_wp2_with (go_at_call 33; fail)
    go_at_call 33
    refine (as_hit f 0 w.heap.size _ _ _ T1.out HR.out).mono ?_
    rintro e w2 ⟨rfl, h1, h2⟩
    have c2 : w2.cell? ⟨w.heap.size, 0, none⟩ = some (.int .i64 f) := by rw [cell_of_row _ _ _ _ _ _ h1]; rfl
    have B2 := hid (BW.out.trans (h2.below (Nat.le_refl _) (by omega)))
    clear h1 h2 c1
    go_wp2
    go_quiet (fail)
    go_wp2
    go_ret2
    exact ⟨rfl, below_drewN B2.out _⟩
  | ok bs =>
    have c1 : (w.alloc (.cells #[.int .i64 0, .int .i64 0] 70)).cell? ⟨b, 1, none⟩ = some .nilIface := by rw [cell_of_row _ _ _ _ _ _ W1.2.1]; rfl
    have c0 : (w.alloc (.cells #[.int .i64 0, .int .i64 0] 70)).cell? ⟨b, 0, none⟩ = some v := by rw [cell_of_row _ _ _ _ _ _ W1.2.1]; rfl
    have hc := conv_any W1.2.2.1
    clear W1 hrow
    go_wp2_with (go_at_call 33; refine (as_nil _ _).mono ?_; rintro e w' ⟨rfl, hw'⟩; rw [hw']; clear hw' w')
    go_ret2
    exact ⟨rfl, BW.out⟩
end Go.Proofs.YtonmhimoglgbgaaDoor
