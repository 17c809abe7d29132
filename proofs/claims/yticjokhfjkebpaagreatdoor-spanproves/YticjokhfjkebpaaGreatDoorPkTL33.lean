import Derived.Test.YticjokhfjkebpaaGreatDoorPkTL32
import Derived.Test.YticjokhfjkebpaaGreatDoorPkTL25
import Derived.Test.YticjokhfjkebpaaGreatDoorPkO46
namespace Go.Proofs.YticjokhfjkebpaaGreatDoor
open Go.RowKit
/-- the blocks of the document's tree -/
def Rb (q : Nat) (v : Value) (k : Nat) : Prop := k = q ∨ v.ownBlock = some k
/-- the document's tree: a height and a list of leaves -/
structure RtL (w : World) (q h : Nat) (L : List (List UInt8)) (F : Nat → Prop) : Prop where
  ex : ∃ v, w.heap[q]? = some (.cells #[.int .i64 (h : Int), v] 110 (0, 0)) ∧ Own w 0 v (svs L) ∧ v.ownBlock ≠ some q ∧ F = Rb q v
  hs : Tree.Hs L
  h1 : 1 ≤ h
  h8 : h ≤ 8
  low : ∀ k, F k → 4 ≤ k
  n20 : L.length ≤ 1048576
theorem RtL.lt {w : World} {q h : Nat} {L : List (List UInt8)} {F : Nat → Prop} (t : RtL w q h L F) : ∀ k, F k → k < w.heap.size := by
  obtain ⟨⟨v, r1, o1, _, rfl⟩, _, _, _, _, _⟩ := t
  rintro k (rfl | hk)
  · exact lt_of_heap r1
  · exact o1.ltS k hk
theorem RtL.keep {w w' : World} {q h : Nat} {L : List (List UInt8)} {F S : Nat → Prop} (t : RtL w q h L F) (hk : Keep S w w') (hd : ∀ k, F k → ¬ S k) : RtL w' q h L F := by
  have hlt := t.lt
  obtain ⟨⟨v, r1, o1, n1, rfl⟩, h2, h3, h4, h5, h6⟩ := t
  exact ⟨⟨v, (hk.block q (lt_of_heap r1) (hd q (.inl rfl))).trans r1, o1.keep hk fun k e => hd k (.inr e), n1, rfl⟩, h2, h3, h4, h5, h6⟩
theorem RtL.below {w w' : World} {q h : Nat} {L : List (List UInt8)} {F : Nat → Prop} (t : RtL w q h L F) (hb : Below w.heap.size w w') : RtL w' q h L F :=
  t.keep (Keep.ofBelow (S := fun _ => False) hb) fun _ _ e => e
theorem RtL.mov {w w' : World} {q h : Nat} {L : List (List UInt8)} {F G G' : Nat → Prop} (t : RtL w q h L F) (hm : Mov G w w' G') (hd : ∀ k, F k → ¬ G k) : RtL w' q h L F ∧ ∀ k, F k → ¬ G' k :=
  ⟨t.keep hm.keep hd, fun k hk e => by
    rcases hm.new k e with e | e
    · exact hd k hk e
    · have := t.lt k hk; omega⟩
/-- what lies in its row -/
theorem RtL.open {w : World} {q h : Nat} {L : List (List UInt8)} {F : Nat → Prop} (t : RtL w q h L F) : ∃ a c, w.heap[q]? = some (.cells #[.int .i64 (h : Int), .slice a L.length c] 110 (0, 0)) ∧ Own w 0 (.slice a L.length c) (svs L) ∧ (Value.slice a L.length c).ownBlock ≠ some q ∧ F = Rb q (.slice a L.length c) ∧ At w a L ∧ L.length ≤ c ∧ c ≤ 9223372036854775807 := by
  obtain ⟨⟨v, r1, o1, n1, rfl⟩, _, _, _, _, _⟩ := t
  obtain ⟨a, c, rfl, hA, h1, h2⟩ := o1.at
  exact ⟨a, c, r1, o1, n1, rfl, hA, h1, h2⟩
set_option maxRecDepth 100000 in
theorem rSizeL {w : World} {q h : Nat} {L : List (List UInt8)} {F : Nat → Prop} (t : RtL w q h L F) : Calls Tryz.prog 61 #[.pointer (some ⟨q, 0, none⟩)] w fun r w' => r = .returned (.int .i64 (L.length : Int)) ∧ w' = w := by
  obtain ⟨a, c, r1, _, _, _, _, _, _⟩ := t.open
  have c1 : w.cell? ⟨q, 1, none⟩ = some (.slice a L.length c) := by rw [cell_of_row _ _ _ _ _ _ r1]; rfl
  clear r1 t
  generalize L.length = n at *
  go_enter Tryz.func61, Tryz.ntmps61
  go_wp2
  go_ret
  exact ⟨rfl, rfl⟩
set_option maxRecDepth 100000 in
theorem rNew_any (h : Nat) (h1 : 1 ≤ h) (h8 : h ≤ 8) (w : World) (hT : 4 ≤ w.heap.size) : Calls Tryz.prog 20 #[.int .i64 (h : Int)] w fun r w' => ∃ q F, r = .returned (.tuple #[.pointer (some ⟨q, 0, none⟩), .int .i64 0]) ∧ RtL w' q h [] F ∧ (∀ k, F k → w.heap.size ≤ k) ∧ Below w.heap.size w w' := by
  have c0 : ¬ (h : Int) < 1 := by omega
  have c1 : ¬ (h : Int) > 8 := by omega
  have c2 : ¬ 8 < (h : Int) := by omega
  go_enter Tryz.func20, Tryz.ntmps20
  go_wp2
  go_ret2
  have b1 := (Below.refl w.heap.size w).alloc (Nat.le_refl _) (.cells #[Value.int .i64 (h : Int), .slice none 0 0] 110)
  have r1 := heap_alloc_new w (.cells #[Value.int .i64 (h : Int), .slice none 0 0] 110)
  have hF : ∀ k, Rb w.heap.size (.slice none 0 0) k → w.heap.size ≤ k := fun k hk => by
    rcases hk with hk | hk
    · omega
    · cases hk
  exact ⟨w.heap.size, rfl, _, ⟨⟨_, r1, Own.nil _ _, (fun e => by cases e), rfl⟩, fun x hx => (by cases hx), h1, h8, fun k hk => Nat.le_trans hT (hF k hk), by simp⟩, hF, b1⟩
set_option maxRecDepth 100000 in
theorem rNew_bad (h : Int) (h1 : h < 1 ∨ 8 < h) (w : World) : Calls Tryz.prog 20 #[.int .i64 h] w fun r w' => r = .returned (.tuple #[.pointer none, .int .i64 70]) ∧ w' = w := by
  by_cases hc : h < 1
  · go_enter Tryz.func20, Tryz.ntmps20
    go_wp2
    go_ret2
    exact ⟨rfl, rfl⟩
  · have c1 : h > 8 := by omega
    go_enter Tryz.func20, Tryz.ntmps20
    go_wp2
    go_ret2
    exact ⟨rfl, rfl⟩
set_option maxRecDepth 100000 in
theorem rAdd_bad (q : Nat) (x : List UInt8) (hx : x.length ≠ 32) (w : World) : Calls Tryz.prog 21 #[.pointer (some ⟨q, 0, none⟩), sv x] w fun r w' => r = .returned (.int .i64 71) ∧ w' = w := by
  have hs := sv_size x
  have c0 : (((ByteArray.mk x.toArray).size : Int) != 32) = true := by rw [hs]; simp; omega
  show Calls _ _ #[_, .string ⟨x.toArray⟩] _ _
  go_enter Tryz.func21, Tryz.ntmps21
  go_wp2
  go_ret
  exact ⟨rfl, rfl⟩
set_option maxRecDepth 100000 in
set_option maxHeartbeats 1000000 in
theorem rAdd_full {w : World} {q h : Nat} {L : List (List UInt8)} {F : Nat → Prop} (t : RtL w q h L F) (x : List UInt8) (hx : x.length = 32) (hn : ¬ L.length < 1048576) : Calls Tryz.prog 21 #[.pointer (some ⟨q, 0, none⟩), sv x] w fun r w' => r = .returned (.int .i64 74) ∧ w' = w := by
  have hs := sv_size x
  have c0 : (((ByteArray.mk x.toArray).size : Int) != 32) = false := by rw [hs, hx]; rfl
  obtain ⟨a, c, r1, _, _, _, _, _, _⟩ := t.open
  have c1 : w.cell? ⟨q, 1, none⟩ = some (.slice a L.length c) := by rw [cell_of_row _ _ _ _ _ _ r1]; rfl
  clear r1 t hs
  generalize L.length = n at *
  have c2 : (n : Int) ≥ 1048576 := by omega
  show Calls _ _ #[_, .string ⟨x.toArray⟩] _ _
  go_enter Tryz.func21, Tryz.ntmps21
  go_wp2
  go_ret
  exact ⟨rfl, rfl⟩
set_option maxRecDepth 100000 in
set_option maxHeartbeats 1000000 in
theorem rAdd_any {w : World} {q h : Nat} {L : List (List UInt8)} {F : Nat → Prop} (t : RtL w q h L F) (x : List UInt8) (hx : x.length = 32) (hn : L.length < 1048576) (hT : 4 ≤ w.heap.size) : Calls Tryz.prog 21 #[.pointer (some ⟨q, 0, none⟩), sv x] w fun r w' => r = .returned (.int .i64 0) ∧ ∃ F', RtL w' q h (L ++ [x]) F' ∧ Mov F w w' F' := by
  have hs := sv_size x
  have c0 : (((ByteArray.mk x.toArray).size : Int) != 32) = false := by rw [hs, hx]; rfl
  have hsx : Tree.Hs (L ++ [x]) := fun y hy => by
    rcases List.mem_append.1 hy with hy | hy
    · exact t.hs y hy
    · rw [List.mem_singleton.1 hy]; exact hx
  obtain ⟨a, c, r1, o1, n1, rfl, _, _, _⟩ := t.open
  obtain ⟨_, _, g1, g8, glow, _⟩ := t
  have c1 : w.cell? ⟨q, 1, none⟩ = some (.slice a L.length c) := by rw [cell_of_row _ _ _ _ _ _ r1]; rfl
  obtain ⟨v', w', hap, o2, gr⟩ := append_S w 0 _ L x o1 (by omega) (Nat.zero_le _)
  have hq := lt_of_heap r1
  have r2 := (gr.old q hq n1).trans r1
  have f2 : w'.frozen? ⟨q, 1, none⟩ = false := frozen_of_row _ _ _ _ _ r2
  have c2' : w'.cell? ⟨q, 1, none⟩ = some (.slice a L.length c) := by rw [cell_of_row _ _ _ _ _ _ r2]; rfl
  have fin : Hid (∃ F', RtL (w'.setCell ⟨q, 1, none⟩ v') q h (L ++ [x]) F' ∧ Mov (Rb q (.slice a L.length c)) w (w'.setCell ⟨q, 1, none⟩ v') F') := by
    have hnew : ∀ k, v'.ownBlock = some k → (Value.slice a L.length c).ownBlock = some k ∨ w.heap.size ≤ k := fun k hk => by
      rcases gr.alt with e | ⟨e, _⟩
      · left; rw [← e]; exact hk
      · right; exact e k hk
    have hne : v'.ownBlock ≠ some q := fun e => by
      rcases hnew q e with e' | e'
      · exact n1 e'
      · omega
    have hm : Mov (Rb q (.slice a L.length c)) w (w'.setCell ⟨q, 1, none⟩ v') (Rb q v') := by
      refine ⟨(gr.keep.mono fun _ _ e => .inr e).trans (Keep.ofSet (S := fun k => k = q) w' q 1 v' rfl) fun _ _ e => .inl e, fun k hk => ?_⟩
      rcases hk with e | e
      · exact .inl (.inl e)
      · rcases hnew k e with e | e
        · exact .inl (.inr e)
        · exact .inr e
    refine ⟨Rb q v', ⟨⟨v', heap_setCell_same w' q 1 _ _ _ r2, o2.keep (Keep.ofSet (S := fun k => k = q) w' q 1 v' rfl) (fun k hk e => hne (e ▸ hk)), hne, rfl⟩, hsx, g1, g8, fun k hk => ?_, ?_⟩, hm⟩
    · rcases hm.new k hk with e | e
      · exact glow k e
      · omega
    · rw [List.length_append]; simp; omega
  obtain ⟨a', c', hv⟩ := o2.shape
  clear r1 r2 o1 o2 gr glow hsx hs n1
  subst hv
  generalize (svs (L ++ [x])).length = n' at *
  generalize L.length = n at *
  have c3 : ¬ (n : Int) ≥ 1048576 := by omega
  rw [show sv x = Value.string ⟨x.toArray⟩ from rfl]
  go_enter Tryz.func21, Tryz.ntmps21
  go_wp2_with (at_builtin; go_must (refine Lib.wpList_append_run _ rfl _ _ 24 24 rfl _ _ rfl rfl _ _ hap ?_); clear hap)
  go_ret
  exact ⟨rfl, fin.out⟩
end Go.Proofs.YticjokhfjkebpaaGreatDoor
