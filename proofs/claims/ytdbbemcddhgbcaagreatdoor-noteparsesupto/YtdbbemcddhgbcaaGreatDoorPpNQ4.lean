import Derived.Test.YtdbbemcddhgbcaaGreatDoorPpNQ3
import Derived.Test.YtdbbemcddhgbcaaGreatDoorPpNG5
/- Layer 22: the document's line: its first four kinds (written by genNQ4.py) -/
namespace Go.Proofs.YtdbbemcddhgbcaaGreatDoor
open Go.RowKit Go.Shelf
namespace Nt
theorem grow_of {w w' : World} {v : Value} (h : Below w.heap.size w w') : Wz.Grow w w' v v := ⟨h.os, h.tape, h.output, h.size, fun k hk _ => h.block k hk, .inl rfl⟩
/-- what line leaves -/
def LnQ (t : Nr) (k : Nat) (l : ByteArray) (w : World) (v : Value) (q : Ending) (w' : World) : Prop := ∃ t' a' n' c', q = .returned (.tuple #[nv t'.O t'.z t'.R (.slice a' n' c'), .bool (stp k t l).isSome]) ∧ (∀ t1, stp k t l = some t1 → t' = t1 ∧ Wz.OwnM 2 w' (.slice a' n' c') t1.S.length (sgs t1.S)) ∧ Wz.Grow w w' v (.slice a' n' c')
set_option maxRecDepth 100000 in
set_option maxHeartbeats 8000000 in
theorem rline_0 {w : World} {t : Nr} {a : Option Addr} {n c : Nat} (hn : t.S.length = n) (ho : Wz.OwnM 2 w (.slice a n c) n (sgs t.S)) (l : ByteArray) (hl : l.size ≤ 9223372036854775807) : Calls Tryz.prog 42 #[nv t.O t.z t.R (.slice a n c), .int .i64 0, .string l] w fun q w' => LnQ t 0 l w (.slice a n c) q w' := by
  have b0 := (Below.refl w.heap.size w).alloc (Nat.le_refl _) (.cells #[.string t.O, .int .i64 t.z, .string t.R, .slice a n c] 26)
  have X0 := Bx.new w t.O t.z t.R (.slice a n c)
  have b1 := (Below.refl _ (w.alloc (.cells #[.string t.O, .int .i64 t.z, .string t.R, .slice a n c] 26))).alloc (Nat.le_refl _) (.cells #[.string ⟨#[]⟩, .int .i64 0, .string ⟨#[]⟩, .slice none 0 0] 26)
  have X1 := Bx.new (w.alloc (.cells #[.string t.O, .int .i64 t.z, .string t.R, .slice a n c] 26)) ⟨#[]⟩ 0 ⟨#[]⟩ (.slice none 0 0)
  have X0 := X0.below b1
  have B1 := b0.trans (b1.mono b0.size)
  have z1 : ((w.alloc (.cells #[.string t.O, .int .i64 t.z, .string t.R, .slice a n c] 26)).alloc (.cells #[.string ⟨#[]⟩, .int .i64 0, .string ⟨#[]⟩, .slice none 0 0] 26)).heap.size = w.heap.size + 2 := by rw [size_alloc, size_alloc]
  rw [size_alloc] at X1
  obtain ⟨W, hW⟩ : ∃ W, (w.alloc (.cells #[.string t.O, .int .i64 t.z, .string t.R, .slice a n c] 26)).alloc (.cells #[.string ⟨#[]⟩, .int .i64 0, .string ⟨#[]⟩, .slice none 0 0] 26) = W := ⟨_, rfl⟩
  rw [hW] at X0 X1 B1 z1
  obtain ⟨g, hg⟩ : ∃ g, w.heap.size = g := ⟨_, rfl⟩
  rw [hg] at X0 X1 B1 z1
  have X1 : Bx W (g + 1) ⟨#[]⟩ 0 ⟨#[]⟩ (.slice none 0 0) := X1
  have HG := hid hg
  have HW := hid hW
  have HO := hid ho
  have HNL := hid hn
  clear hW hg ho b0 b1 hn
  unfold nv
  go_enter Tryz.func42, Tryz.ntmps42
  go_upto_region 1 with fail
  rw [HW.out, HG.out]
  have i1 := risName_any l hl (W.setCell ⟨g, 0, none⟩ (.string l))
  have c0 := X0.c0
  have f0 : W.frozen? ⟨g, 0, none⟩ = false := frozen_of_row _ _ _ _ _ X0
  have X2 : Bx (W.setCell ⟨g, 0, none⟩ (.string l)) g l t.z t.R (.slice a n c) := by
    unfold Bx
    rw [setCell_eq_setRow W g 0 _ _ _ _ X0]
    exact setRow_heap _ _ _ _ _ _ X0
  have X3 : Bx (W.setCell ⟨g, 0, none⟩ (.string l)) (g + 1) ⟨#[]⟩ 0 ⟨#[]⟩ (.slice none 0 0) := by
    unfold Bx
    rw [setCell_eq_setRow W g 0 _ _ _ _ X0]
    exact (setRow_other _ _ _ _ (by omega)).trans X1
  have B2 : Below g w (W.setCell ⟨g, 0, none⟩ (.string l)) := B1.setCell (p := ⟨g, 0, none⟩) (Nat.le_refl _) _
  have HX2 := hid X2
  have HX3 := hid X3
  have HB2 := hid B2
  have HZ := hid (show W.heap.size = g + 2 from z1)
  have HF : Hid (∀ w', Below g w w' → LnQ t 0 l w (.slice a n c) (.returned (.tuple #[nv l t.z t.R (.slice a n c), .bool (nmB l.data.toList)])) w') := fun w' b => by
    have b : Below w.heap.size w w' := by rw [HG.out]; exact b
    have hs : stp 0 t l = if nmB l.data.toList = true then some ⟨l, t.z, t.R, t.S⟩ else none := by unfold stp; rw [if_pos rfl]
    refine ⟨⟨l, t.z, t.R, t.S⟩, _, _, _, ?_, fun t1 e => ?_, grow_of b⟩
    · rw [hs]; cases nmB l.data.toList <;> rfl
    · rw [hs] at e
      split at e
      · obtain rfl := Option.some.inj e
        exact ⟨rfl, by rw [HNL.out]; exact HO.out.below b⟩
      · cases e
  clear X0 X1 X2 X3 B1 B2 z1
  go_upto_region 5 with (go_at_call 43; (refine i1.mono ?_); rintro q w3 ⟨rfl, b3⟩)
  have XN := hid (HX2.out.below b3)
  have YN := hid (HX3.out.below b3)
  have hsz : (W.setCell ⟨g, 0, none⟩ (.string l)).heap.size = W.heap.size := by simp [World.setCell]
  have BN := hid (HB2.out.trans (b3.mono (by rw [hsz, HZ.out]; omega)))
  clear i1 b3 c0 f0 hsz
  go_wp2_with (first
      | ((with_reducible show wpList _ _ _ (Oper.mk _ (Op.load 26 _) _ _ _ _ :: _) _ _); go_must (refine wpList_load_row rfl 26 _ rfl g rfl 26 _ (0, 0) _ XN.out Tryz.underlying26 rfl (sizeNt22 _ _ _ _) ?_))
      | ((with_reducible show wpList _ _ _ (Oper.mk _ (Op.store 26 _ _) _ _ _ _ :: _) _ _); go_must (refine wpList_store_row rfl 26 _ _ rfl (g + 1) _ rfl rfl 26 _ YN.out (sizeNt22 _ _ _ _) rfl (oneNt22 _ _ _ _ _ _) ?_)))
  refine bodyPost_ret (results_row_tmp22 rfl _ _ (g + 1) 26 _ (0, 0) _ rfl (setRow_heap _ _ _ _ _ _ YN.out) Tryz.underlying26 rfl (sizeNt22 _ _ _ _)) rfl ?_
  exact HF.out _ (Below.setRow BN.out (Nat.le_succ _) _)
set_option maxRecDepth 100000 in
set_option maxHeartbeats 8000000 in
theorem rline_1 {w : World} {t : Nr} {a : Option Addr} {n c : Nat} (hn : t.S.length = n) (ho : Wz.OwnM 2 w (.slice a n c) n (sgs t.S)) (l : ByteArray) : Calls Tryz.prog 42 #[nv t.O t.z t.R (.slice a n c), .int .i64 1, .string l] w fun q w' => LnQ t 1 l w (.slice a n c) q w' := by
  have b0 := (Below.refl w.heap.size w).alloc (Nat.le_refl _) (.cells #[.string t.O, .int .i64 t.z, .string t.R, .slice a n c] 26)
  have X0 := Bx.new w t.O t.z t.R (.slice a n c)
  have b1 := (Below.refl _ (w.alloc (.cells #[.string t.O, .int .i64 t.z, .string t.R, .slice a n c] 26))).alloc (Nat.le_refl _) (.cells #[.string ⟨#[]⟩, .int .i64 0, .string ⟨#[]⟩, .slice none 0 0] 26)
  have X1 := Bx.new (w.alloc (.cells #[.string t.O, .int .i64 t.z, .string t.R, .slice a n c] 26)) ⟨#[]⟩ 0 ⟨#[]⟩ (.slice none 0 0)
  have X0 := X0.below b1
  have B1 := b0.trans (b1.mono b0.size)
  have z1 : ((w.alloc (.cells #[.string t.O, .int .i64 t.z, .string t.R, .slice a n c] 26)).alloc (.cells #[.string ⟨#[]⟩, .int .i64 0, .string ⟨#[]⟩, .slice none 0 0] 26)).heap.size = w.heap.size + 2 := by rw [size_alloc, size_alloc]
  rw [size_alloc] at X1
  obtain ⟨W, hW⟩ : ∃ W, (w.alloc (.cells #[.string t.O, .int .i64 t.z, .string t.R, .slice a n c] 26)).alloc (.cells #[.string ⟨#[]⟩, .int .i64 0, .string ⟨#[]⟩, .slice none 0 0] 26) = W := ⟨_, rfl⟩
  rw [hW] at X0 X1 B1 z1
  obtain ⟨g, hg⟩ : ∃ g, w.heap.size = g := ⟨_, rfl⟩
  rw [hg] at X0 X1 B1 z1
  have X1 : Bx W (g + 1) ⟨#[]⟩ 0 ⟨#[]⟩ (.slice none 0 0) := X1
  have HG := hid hg
  have HW := hid hW
  have HO := hid ho
  have HNL := hid hn
  clear hW hg ho b0 b1 hn
  unfold nv
  go_enter Tryz.func42, Tryz.ntmps42
  go_upto_region 1 with fail
  rw [HW.out, HG.out]
  have i1 := rnumber_any l W
  have X2 : ∀ (w2 : World) (x : Int), Below W.heap.size W w2 → Bx (w2.setCell ⟨g, 1, none⟩ (.int .i64 x)) g t.O x t.R (.slice a n c) ∧ Bx (w2.setCell ⟨g, 1, none⟩ (.int .i64 x)) (g + 1) ⟨#[]⟩ 0 ⟨#[]⟩ (.slice none 0 0) ∧ Below g w (w2.setCell ⟨g, 1, none⟩ (.int .i64 x)) ∧ w2.cell? ⟨g, 1, none⟩ = some (.int .i64 t.z) ∧ w2.frozen? ⟨g, 1, none⟩ = false := fun w2 x b => by
    have Y0 := X0.below b
    have Y1 := X1.below b
    refine ⟨?_, ?_, Below.setCell (p := ⟨g, 1, none⟩) (B1.trans (b.mono (by rw [z1]; omega))) (Nat.le_refl _) _, Y0.c1, frozen_of_row _ _ _ _ _ Y0⟩
    · unfold Bx
      rw [setCell_eq_setRow w2 g 1 _ _ _ _ Y0]
      exact setRow_heap _ _ _ _ _ _ Y0
    · unfold Bx
      rw [setCell_eq_setRow w2 g 1 _ _ _ _ Y0]
      exact (setRow_other _ _ _ _ (by omega)).trans Y1
  have HX2 := hid X2
  have HF : Hid (∀ (z : Int) (b : Bool), SzP l z b → ∀ w', Below g w w' → LnQ t 1 l w (.slice a n c) (.returned (.tuple #[nv t.O z t.R (.slice a n c), .bool b])) w') := fun z b hz w' bb => by
    have bb : Below w.heap.size w w' := by rw [HG.out]; exact bb
    have hs : stp 1 t l = match szB l with | some z => some ⟨t.O, z, t.R, t.S⟩ | none => none := by unfold stp; rw [if_neg (by decide), if_pos rfl]; rfl
    refine ⟨⟨t.O, z, t.R, t.S⟩, _, _, _, ?_, fun t1 e => ?_, grow_of bb⟩
    · rw [hs]
      rcases hz.of with ⟨e, rfl⟩ | ⟨e, rfl⟩
      · rw [e]; rfl
      · rw [e]; rfl
    · rw [hs] at e
      rcases hz.of with ⟨e9, rfl⟩ | ⟨e9, rfl⟩
      · rw [e9] at e
        obtain rfl := Option.some.inj e
        exact ⟨rfl, by rw [HNL.out]; exact HO.out.below bb⟩
      · rw [e9] at e; cases e
  clear X0 X1 X2 B1 z1
  go_upto_region 8 with (go_at_call 66; (refine i1.mono ?_); rintro q w3 ⟨⟨z, b, rfl, hz⟩, b3⟩)
  obtain ⟨XN, YN, BN, c1, f1⟩ := HX2.out w3 z b3
  have XN := hid XN
  have YN := hid YN
  have BN := hid BN
  have HZZ := hid hz
  clear i1 b3 hz
  go_wp2_with (first
      | ((with_reducible show wpList _ _ _ (Oper.mk _ (Op.load 26 _) _ _ _ _ :: _) _ _); go_must (refine wpList_load_row rfl 26 _ rfl g rfl 26 _ (0, 0) _ XN.out Tryz.underlying26 rfl (sizeNt22 _ _ _ _) ?_))
      | ((with_reducible show wpList _ _ _ (Oper.mk _ (Op.store 26 _ _) _ _ _ _ :: _) _ _); go_must (refine wpList_store_row rfl 26 _ _ rfl (g + 1) _ rfl rfl 26 _ YN.out (sizeNt22 _ _ _ _) rfl (oneNt22 _ _ _ _ _ _) ?_)))
  refine bodyPost_ret (results_row_tmp22 rfl _ _ (g + 1) 26 _ (0, 0) _ rfl (setRow_heap _ _ _ _ _ _ YN.out) Tryz.underlying26 rfl (sizeNt22 _ _ _ _)) rfl ?_
  exact HF.out _ _ HZZ.out _ (Below.setRow BN.out (Nat.le_succ _) _)
set_option maxRecDepth 100000 in
set_option maxHeartbeats 8000000 in
theorem rline_2 {w : World} {t : Nr} {a : Option Addr} {n c : Nat} (hn : t.S.length = n) (ho : Wz.OwnM 2 w (.slice a n c) n (sgs t.S)) (l : ByteArray) (hl : l.size ≤ 70368744177664) : Calls Tryz.prog 42 #[nv t.O t.z t.R (.slice a n c), .int .i64 2, .string l] w fun q w' => LnQ t 2 l w (.slice a n c) q w' := by
  have b0 := (Below.refl w.heap.size w).alloc (Nat.le_refl _) (.cells #[.string t.O, .int .i64 t.z, .string t.R, .slice a n c] 26)
  have X0 := Bx.new w t.O t.z t.R (.slice a n c)
  have b1 := (Below.refl _ (w.alloc (.cells #[.string t.O, .int .i64 t.z, .string t.R, .slice a n c] 26))).alloc (Nat.le_refl _) (.cells #[.string ⟨#[]⟩, .int .i64 0, .string ⟨#[]⟩, .slice none 0 0] 26)
  have X1 := Bx.new (w.alloc (.cells #[.string t.O, .int .i64 t.z, .string t.R, .slice a n c] 26)) ⟨#[]⟩ 0 ⟨#[]⟩ (.slice none 0 0)
  have X0 := X0.below b1
  have B1 := b0.trans (b1.mono b0.size)
  have z1 : ((w.alloc (.cells #[.string t.O, .int .i64 t.z, .string t.R, .slice a n c] 26)).alloc (.cells #[.string ⟨#[]⟩, .int .i64 0, .string ⟨#[]⟩, .slice none 0 0] 26)).heap.size = w.heap.size + 2 := by rw [size_alloc, size_alloc]
  rw [size_alloc] at X1
  obtain ⟨W, hW⟩ : ∃ W, (w.alloc (.cells #[.string t.O, .int .i64 t.z, .string t.R, .slice a n c] 26)).alloc (.cells #[.string ⟨#[]⟩, .int .i64 0, .string ⟨#[]⟩, .slice none 0 0] 26) = W := ⟨_, rfl⟩
  rw [hW] at X0 X1 B1 z1
  obtain ⟨g, hg⟩ : ∃ g, w.heap.size = g := ⟨_, rfl⟩
  rw [hg] at X0 X1 B1 z1
  have X1 : Bx W (g + 1) ⟨#[]⟩ 0 ⟨#[]⟩ (.slice none 0 0) := X1
  have HG := hid hg
  have HW := hid hW
  have HO := hid ho
  have HNL := hid hn
  clear hW hg ho b0 b1 hn
  unfold nv
  go_enter Tryz.func42, Tryz.ntmps42
  go_upto_region 1 with fail
  rw [HW.out, HG.out]
  have i1 := rfromBase64_any l hl W
  unfold sv at i1
  have X2 : ∀ (w2 : World) (x : ByteArray), Below W.heap.size W w2 → Bx (w2.setCell ⟨g, 2, none⟩ (.string x)) g t.O t.z x (.slice a n c) ∧ Bx (w2.setCell ⟨g, 2, none⟩ (.string x)) (g + 1) ⟨#[]⟩ 0 ⟨#[]⟩ (.slice none 0 0) ∧ Below g w (w2.setCell ⟨g, 2, none⟩ (.string x)) ∧ w2.cell? ⟨g, 2, none⟩ = some (.string t.R) ∧ w2.frozen? ⟨g, 2, none⟩ = false := fun w2 x b => by
    have Y0 := X0.below b
    have Y1 := X1.below b
    refine ⟨?_, ?_, Below.setCell (p := ⟨g, 2, none⟩) (B1.trans (b.mono (by rw [z1]; omega))) (Nat.le_refl _) _, Y0.c2, frozen_of_row _ _ _ _ _ Y0⟩
    · unfold Bx
      rw [setCell_eq_setRow w2 g 2 _ _ _ _ Y0]
      exact setRow_heap _ _ _ _ _ _ Y0
    · unfold Bx
      rw [setCell_eq_setRow w2 g 2 _ _ _ _ Y0]
      exact (setRow_other _ _ _ _ (by omega)).trans Y1
  have HX2 := hid X2
  have hs : stp 2 t l = if (Tx.fromB64 l.data.toList).2 = 0 ∧ (Tx.fromB64 l.data.toList).1.length = 32 then some ⟨t.O, t.z, ⟨(Tx.fromB64 l.data.toList).1.toArray⟩, t.S⟩ else none := rfl
  generalize Tx.fromB64 l.data.toList = D at *
  obtain ⟨D1, D2⟩ := D
  simp only at i1 hs
  have HF : Hid (∀ b : Bool, b = decide (D2 = 0 ∧ D1.length = 32) → ∀ w', Below g w w' → LnQ t 2 l w (.slice a n c) (.returned (.tuple #[nv t.O t.z ⟨D1.toArray⟩ (.slice a n c), .bool b])) w') := fun b hb w' bb => by
    have bb : Below w.heap.size w w' := by rw [HG.out]; exact bb
    refine ⟨⟨t.O, t.z, ⟨D1.toArray⟩, t.S⟩, _, _, _, ?_, fun t1 e => ?_, grow_of bb⟩
    · rw [hs, hb]
      split
      · rename_i h9; rw [decide_eq_true h9]; rfl
      · rename_i h9; rw [decide_eq_false h9]; rfl
    · rw [hs] at e
      split at e
      · obtain rfl := Option.some.inj e
        exact ⟨rfl, by rw [HNL.out]; exact HO.out.below bb⟩
      · cases e
  have e32 := sv_size D1
  clear X0 X1 X2 B1 z1 hs
  go_upto_region 12 with (go_at_call 67; (refine i1.mono ?_); rintro q w3 ⟨rfl, b3⟩)
  obtain ⟨XN, YN, BN, c1, f1⟩ := HX2.out w3 ⟨D1.toArray⟩ b3
  have XN := hid XN
  have YN := hid YN
  have BN := hid BN
  clear i1 b3
  by_cases hd : D2 = 0
  · subst hd
    by_cases h32 : D1.length = 32
    · have hn2 : (D1.length : Int) = 32 := by omega
      have HY := hid (HF.out true (by rw [decide_eq_true ⟨rfl, h32⟩]) _ (Below.setRow BN.out (Nat.le_succ _) #[.string t.O, .int .i64 t.z, .string ⟨D1.toArray⟩, .slice a n c]))
      clear h32 e32
      go_wp2_with (first
      | ((with_reducible show wpList _ _ _ (Oper.mk _ (Op.load 26 _) _ _ _ _ :: _) _ _); go_must (refine wpList_load_row rfl 26 _ rfl g rfl 26 _ (0, 0) _ XN.out Tryz.underlying26 rfl (sizeNt22 _ _ _ _) ?_))
      | ((with_reducible show wpList _ _ _ (Oper.mk _ (Op.store 26 _ _) _ _ _ _ :: _) _ _); go_must (refine wpList_store_row rfl 26 _ _ rfl (g + 1) _ rfl rfl 26 _ YN.out (sizeNt22 _ _ _ _) rfl (oneNt22 _ _ _ _ _ _) ?_)))
      refine bodyPost_ret (results_row_tmp22 rfl _ _ (g + 1) 26 _ (0, 0) _ rfl (setRow_heap _ _ _ _ _ _ YN.out) Tryz.underlying26 rfl (sizeNt22 _ _ _ _)) rfl ?_
      exact HY.out
    · have hn2 : ((D1.length : Int) == 32) = false := by rw [beq_eq_false_iff_ne]; omega
      have HY := hid (HF.out false (by rw [decide_eq_false fun e => h32 e.2]) _ (Below.setRow BN.out (Nat.le_succ _) #[.string t.O, .int .i64 t.z, .string ⟨D1.toArray⟩, .slice a n c]))
      clear h32 e32
      go_wp2_with (first
      | ((with_reducible show wpList _ _ _ (Oper.mk _ (Op.load 26 _) _ _ _ _ :: _) _ _); go_must (refine wpList_load_row rfl 26 _ rfl g rfl 26 _ (0, 0) _ XN.out Tryz.underlying26 rfl (sizeNt22 _ _ _ _) ?_))
      | ((with_reducible show wpList _ _ _ (Oper.mk _ (Op.store 26 _ _) _ _ _ _ :: _) _ _); go_must (refine wpList_store_row rfl 26 _ _ rfl (g + 1) _ rfl rfl 26 _ YN.out (sizeNt22 _ _ _ _) rfl (oneNt22 _ _ _ _ _ _) ?_)))
      refine bodyPost_ret (results_row_tmp22 rfl _ _ (g + 1) 26 _ (0, 0) _ rfl (setRow_heap _ _ _ _ _ _ YN.out) Tryz.underlying26 rfl (sizeNt22 _ _ _ _)) rfl ?_
      exact HY.out
  · have hd' : (D2 == 0) = false := beq_false_of_ne hd
    have HY := hid (HF.out false (by rw [decide_eq_false fun e => hd e.1]) _ (Below.setRow BN.out (Nat.le_succ _) #[.string t.O, .int .i64 t.z, .string ⟨D1.toArray⟩, .slice a n c]))
    clear e32
    go_wp2_with (first
      | ((with_reducible show wpList _ _ _ (Oper.mk _ (Op.load 26 _) _ _ _ _ :: _) _ _); go_must (refine wpList_load_row rfl 26 _ rfl g rfl 26 _ (0, 0) _ XN.out Tryz.underlying26 rfl (sizeNt22 _ _ _ _) ?_))
      | ((with_reducible show wpList _ _ _ (Oper.mk _ (Op.store 26 _ _) _ _ _ _ :: _) _ _); go_must (refine wpList_store_row rfl 26 _ _ rfl (g + 1) _ rfl rfl 26 _ YN.out (sizeNt22 _ _ _ _) rfl (oneNt22 _ _ _ _ _ _) ?_)))
    refine bodyPost_ret (results_row_tmp22 rfl _ _ (g + 1) 26 _ (0, 0) _ rfl (setRow_heap _ _ _ _ _ _ YN.out) Tryz.underlying26 rfl (sizeNt22 _ _ _ _)) rfl ?_
    exact HY.out
set_option maxRecDepth 100000 in
set_option maxHeartbeats 8000000 in
theorem rline_3 {w : World} {t : Nr} {a : Option Addr} {n c : Nat} (hn : t.S.length = n) (ho : Wz.OwnM 2 w (.slice a n c) n (sgs t.S)) (l : ByteArray) : Calls Tryz.prog 42 #[nv t.O t.z t.R (.slice a n c), .int .i64 3, .string l] w fun q w' => LnQ t 3 l w (.slice a n c) q w' := by
  have b0 := (Below.refl w.heap.size w).alloc (Nat.le_refl _) (.cells #[.string t.O, .int .i64 t.z, .string t.R, .slice a n c] 26)
  have X0 := Bx.new w t.O t.z t.R (.slice a n c)
  have b1 := (Below.refl _ (w.alloc (.cells #[.string t.O, .int .i64 t.z, .string t.R, .slice a n c] 26))).alloc (Nat.le_refl _) (.cells #[.string ⟨#[]⟩, .int .i64 0, .string ⟨#[]⟩, .slice none 0 0] 26)
  have X1 := Bx.new (w.alloc (.cells #[.string t.O, .int .i64 t.z, .string t.R, .slice a n c] 26)) ⟨#[]⟩ 0 ⟨#[]⟩ (.slice none 0 0)
  have X0 := X0.below b1
  have B1 := b0.trans (b1.mono b0.size)
  have z1 : ((w.alloc (.cells #[.string t.O, .int .i64 t.z, .string t.R, .slice a n c] 26)).alloc (.cells #[.string ⟨#[]⟩, .int .i64 0, .string ⟨#[]⟩, .slice none 0 0] 26)).heap.size = w.heap.size + 2 := by rw [size_alloc, size_alloc]
  rw [size_alloc] at X1
  obtain ⟨W, hW⟩ : ∃ W, (w.alloc (.cells #[.string t.O, .int .i64 t.z, .string t.R, .slice a n c] 26)).alloc (.cells #[.string ⟨#[]⟩, .int .i64 0, .string ⟨#[]⟩, .slice none 0 0] 26) = W := ⟨_, rfl⟩
  rw [hW] at X0 X1 B1 z1
  obtain ⟨g, hg⟩ : ∃ g, w.heap.size = g := ⟨_, rfl⟩
  rw [hg] at X0 X1 B1 z1
  have X1 : Bx W (g + 1) ⟨#[]⟩ 0 ⟨#[]⟩ (.slice none 0 0) := X1
  have HG := hid hg
  have HW := hid hW
  have HO := hid ho
  have HNL := hid hn
  clear hW hg ho b0 b1 hn
  unfold nv
  go_enter Tryz.func42, Tryz.ntmps42
  go_upto_region 1 with fail
  rw [HW.out, HG.out]
  have XN := hid X0
  have YN := hid X1
  have BN := hid B1
  have HF : Hid (∀ b : Bool, b = decide (l.size = 0) → ∀ w', Below g w w' → LnQ t 3 l w (.slice a n c) (.returned (.tuple #[nv t.O t.z t.R (.slice a n c), .bool b])) w') := fun b hb w' bb => by
    have bb : Below w.heap.size w w' := by rw [HG.out]; exact bb
    have hs : stp 3 t l = if l.size = 0 then some t else none := by unfold stp; rw [if_neg (by decide), if_neg (by decide), if_neg (by decide), if_pos rfl]
    refine ⟨t, _, _, _, ?_, fun t1 e => ?_, grow_of bb⟩
    · rw [hs, hb]
      split
      · rename_i h9; rw [decide_eq_true h9]; rfl
      · rename_i h9; rw [decide_eq_false h9]; rfl
    · rw [hs] at e
      split at e
      · obtain rfl := Option.some.inj e
        exact ⟨rfl, by rw [HNL.out]; exact HO.out.below bb⟩
      · cases e
  clear X0 X1 B1 z1
  have e0 : (⟨#[]⟩ : ByteArray).toList = [] := by simp [ByteArray.toList_eq]
  by_cases hz : l.size = 0
  · have HY := hid (HF.out true (by rw [decide_eq_true hz]) _ (Below.setRow BN.out (Nat.le_succ _) #[.string t.O, .int .i64 t.z, .string t.R, .slice a n c]))
    obtain rfl : l = ⟨#[]⟩ := by
      apply Go.WideShapes.bytes_inj
      have := dlen l
      rw [hz] at this
      rw [List.length_eq_zero_iff.1 this]
    clear hz
    go_wp2_with (first
      | ((with_reducible show wpList _ _ _ (Oper.mk _ (Op.load 26 _) _ _ _ _ :: _) _ _); go_must (refine wpList_load_row rfl 26 _ rfl g rfl 26 _ (0, 0) _ XN.out Tryz.underlying26 rfl (sizeNt22 _ _ _ _) ?_))
      | ((with_reducible show wpList _ _ _ (Oper.mk _ (Op.store 26 _ _) _ _ _ _ :: _) _ _); go_must (refine wpList_store_row rfl 26 _ _ rfl (g + 1) _ rfl rfl 26 _ YN.out (sizeNt22 _ _ _ _) rfl (oneNt22 _ _ _ _ _ _) ?_)))
    refine bodyPost_ret (results_row_tmp22 rfl _ _ (g + 1) 26 _ (0, 0) _ rfl (setRow_heap _ _ _ _ _ _ YN.out) Tryz.underlying26 rfl (sizeNt22 _ _ _ _)) rfl ?_
    exact HY.out
  · have HY := hid (HF.out false (by rw [decide_eq_false hz]) _ (Below.setRow BN.out (Nat.le_succ _) #[.string t.O, .int .i64 t.z, .string t.R, .slice a n c]))
    have hb := ba_ne (a := l) (b := ⟨#[]⟩) (fun e => hz (by rw [e]; rfl))
    rw [e0] at hb
    clear hz
    go_wp2_with (first
      | ((with_reducible show wpList _ _ _ (Oper.mk _ (Op.load 26 _) _ _ _ _ :: _) _ _); go_must (refine wpList_load_row rfl 26 _ rfl g rfl 26 _ (0, 0) _ XN.out Tryz.underlying26 rfl (sizeNt22 _ _ _ _) ?_))
      | ((with_reducible show wpList _ _ _ (Oper.mk _ (Op.store 26 _ _) _ _ _ _ :: _) _ _); go_must (refine wpList_store_row rfl 26 _ _ rfl (g + 1) _ rfl rfl 26 _ YN.out (sizeNt22 _ _ _ _) rfl (oneNt22 _ _ _ _ _ _) ?_)))
    refine bodyPost_ret (results_row_tmp22 rfl _ _ (g + 1) 26 _ (0, 0) _ rfl (setRow_heap _ _ _ _ _ _ YN.out) Tryz.underlying26 rfl (sizeNt22 _ _ _ _)) rfl ?_
    exact HY.out
end Nt
end Go.Proofs.YtdbbemcddhgbcaaGreatDoor
