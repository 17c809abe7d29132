import Derived.Test.YtdbbemcddhgbcaaGreatDoorPkNF1
import Derived.Test.YtdbbemcddhgbcaaGreatDoorPkND1
import Derived.Test.YtdbbemcddhgbcaaGreatDoorPkNA6
/- Layer 22: strings.Cut at a space, signatures' lines, in the program -/
namespace Go.Proofs.YtdbbemcddhgbcaaGreatDoor
open Go.RowKit Go.Shelf
namespace Nt
theorem indexByte_lt (l : List UInt8) (c : UInt8) : Lib.indexByte l c < (l.length : Int) ∨ Lib.indexByte l c = -1 := by
  induction l with
  | nil => exact .inr rfl
  | cons b l ih =>
    unfold Lib.indexByte
    split
    · exact .inl (by simp only [List.length_cons]; omega)
    · split
      · exact .inr rfl
      · rename_i h1 h2
        rcases ih with h | h
        · exact .inl (by simp only [List.length_cons]; omega)
        · exact absurd (by rw [h]; rfl) h2
/-- what stands ahead of a space, and behind it; whether there is one -/
def spA (m : ByteArray) : ByteArray × ByteArray × Bool := if 0 ≤ Lib.indexByte m.data.toList 32 then (m.extract 0 (Lib.indexByte m.data.toList 32).toNat, m.extract ((Lib.indexByte m.data.toList 32).toNat + 1) m.size, true) else (m, ⟨#[]⟩, false)
set_option maxRecDepth 100000 in
set_option maxHeartbeats 4000000 in
theorem index_sp (m : ByteArray) (w : World) : Calls Tryz.prog 148 #[.string m, .string ⟨#[32]⟩] w fun q w' => q = .returned (.int .i64 (Lib.indexByte m.data.toList 32)) ∧ w' = w := by
  have i1 := Tryz.stringslite_IndexByte m 32 w
  have e : (32 : Int).toNat.toUInt8 = (32 : UInt8) := by decide
  rw [e] at i1
  by_cases hm : m = ⟨#[32]⟩
  · subst hm
    clear i1 e
    have e2 : Lib.indexByte (ByteArray.mk #[32]).data.toList 32 = 0 := by decide
    rw [e2]
    clear e2
    go_enter Tryz.func148, Tryz.ntmps148
    go_wp2
    go_ret
    exact ⟨rfl, rfl⟩
  · have e2 : ((⟨#[32]⟩ : ByteArray).toList == m.toList) = false := ba_ne (fun h => hm h.symm)
    have e4 : (ByteArray.mk #[32]).toList = [32] := by simp [ByteArray.toList_eq]
    rw [e4] at e2
    clear e hm e4
    go_enter Tryz.func148, Tryz.ntmps148
    go_wp2_with (go_at_call 171; (refine i1.mono ?_); rintro q w1 ⟨rfl, rfl⟩)
    go_ret
    exact ⟨rfl, rfl⟩
set_option maxRecDepth 100000 in
set_option maxHeartbeats 4000000 in
theorem cutlite_sp (m : ByteArray) (hm : m.size ≤ 9223372036854775806) (w : World) : Calls Tryz.prog 121 #[.string m, .string ⟨#[32]⟩] w fun q w' => q = .returned (.tuple #[.string (spA m).1, .string (spA m).2.1, .bool (spA m).2.2]) ∧ Below w.heap.size w w' := by
  have i1 := index_sp m w
  obtain ⟨x, hx⟩ : ∃ x, Lib.indexByte m.data.toList 32 = x := ⟨_, rfl⟩
  have hb := indexByte_lt m.data.toList 32
  rw [dlen, hx] at hb
  rw [hx] at i1
  by_cases h0 : 0 ≤ x
  · obtain ⟨k, rfl⟩ : ∃ k : Nat, x = (k : Int) := ⟨x.toNat, by omega⟩
    have e : spA m = (m.extract 0 k, m.extract (k + 1) m.size, true) := by unfold spA; rw [hx, if_pos h0, Int.toNat_natCast]
    rw [e]
    have hk : k < m.size := by omega
    have HK := hid hk
    have r1 := fun W => run_slice_string_h (P := Tryz.prog) W 9 m Tryz.underlying9 .i64 (k : Int) (by omega) (by omega)
    have r2 := fun W => run_slice_string_l (P := Tryz.prog) W 9 m Tryz.underlying9 .i64 ((k + 1 : Nat) : Int) (by omega) (by omega)
    have t1 : IntKind.i64.wrap ((k : Int) + 1) = ((k + 1 : Nat) : Int) := by rw [IntKind.wrap_i64]; omega
    clear hx hb e
    go_enter Tryz.func121, Tryz.ntmps121
    go_wp2_with (go_at_call 148; (refine i1.mono ?_); rintro q w1 ⟨rfl, rfl⟩)
    go_quiet (fail)
    go_wp2
    go_ret3
    exact ⟨rfl, rfl, rfl, rfl, Nat.le_refl _, fun _ _ => rfl⟩
  · have e : spA m = (m, ⟨#[]⟩, false) := by unfold spA; rw [hx, if_neg h0]
    rw [e]
    clear hx hb e
    go_enter Tryz.func121, Tryz.ntmps121
    go_wp2_with (go_at_call 148; (refine i1.mono ?_); rintro q w1 ⟨rfl, rfl⟩)
    go_ret3
    exact ⟨rfl, Below.refl _ _⟩
set_option maxRecDepth 100000 in
set_option maxHeartbeats 4000000 in
theorem cut_sp (m : ByteArray) (hm : m.size ≤ 9223372036854775806) (w : World) : Calls Tryz.prog 99 #[.string m, .string ⟨#[32]⟩] w fun q w' => q = .returned (.tuple #[.string (spA m).1, .string (spA m).2.1, .bool (spA m).2.2]) ∧ Below w.heap.size w w' := by
  have i1 := cutlite_sp m hm w
  go_enter Tryz.func99, Tryz.ntmps99
  go_wp2_with (go_at_call 121; (refine i1.mono ?_); rintro q w1 ⟨rfl, b1⟩)
  go_ret3
  exact ⟨rfl, b1⟩
/-- what stands behind a signature's mark -/
def mkR (l : ByteArray) : ByteArray := ⟨(Lib.trimPrefix l.data.toList [45, 32]).toArray⟩
def mkB (l : ByteArray) : Bool := Lib.hasPrefix l.data.toList [45, 32]
/-- what a signature's line tells, and whether it is one -/
def sgA (l : ByteArray) : Sg := ((spA (mkR l)).1, ⟨(Tx.fromB64 (spA (mkR l)).2.1.data.toList).1.toArray⟩)
def sgO (l : ByteArray) : Bool := (mkB l && (spA (mkR l)).2.2) && decide ((Tx.fromB64 (spA (mkR l)).2.1.data.toList).2 = 0)
theorem mkR_size (l : ByteArray) : (mkR l).size ≤ l.size := by
  unfold mkR Lib.trimPrefix
  rw [sv_size]
  split
  · rw [List.length_drop, dlen]; omega
  · rw [dlen]; exact Nat.le_refl _
theorem spA_size (m : ByteArray) : (spA m).2.1.size ≤ m.size ∧ (spA m).1.size ≤ m.size := by
  unfold spA
  split
  · refine ⟨?_, ?_⟩
    · show (m.extract _ m.size).size ≤ _
      rw [ByteArray.size_extract]; omega
    · show (m.extract 0 _).size ≤ _
      rw [ByteArray.size_extract]; omega
  · exact ⟨Nat.zero_le _, Nat.le_refl _⟩
theorem sizeSgG (a b : Value) : (Tryz.prog.info? 32).map (·.size) = some #[a, b].size := by
  show _ = some 2
  kernel_rfl
theorem oneSgG (a b : ByteArray) : (#[Value.string a, .string b].all (·.oneCell')) = true := all_oneCell_toArray (cs := [Value.string a, .string b]) fun v hv => by
  simp only [List.mem_cons, List.not_mem_nil, or_false] at hv
  rcases hv with rfl | rfl <;> rfl
set_option maxRecDepth 100000 in
set_option maxHeartbeats 4000000 in
theorem signatureOf_any (l : ByteArray) (hl : l.size ≤ 140737488355328) (w : World) : Calls Tryz.prog 82 #[.string l] w fun q w' => q = .returned (.tuple #[.agg #[.string (sgA l).1, .string (sgA l).2], .bool (sgO l)]) ∧ Below w.heap.size w w' := by
  have b0 := hid ((Below.refl w.heap.size w).alloc (Nat.le_refl _) (.cells #[.string ⟨#[]⟩, .string ⟨#[]⟩] 32))
  have s0 := hid (heap_alloc_new w (.cells #[.string ⟨#[]⟩, .string ⟨#[]⟩] 32))
  obtain ⟨W, hW⟩ : ∃ W, w.alloc (.cells #[.string ⟨#[]⟩, .string ⟨#[]⟩] 32) = W := ⟨_, rfl⟩
  have i1 := Tryz.strings_CutPrefix l ⟨#[45, 32]⟩ W
  have z1 := mkR_size l
  have z2 := spA_size (mkR l)
  have i2 := fun w' => cut_sp (mkR l) (by omega) w'
  have i3 := fun w' => fromBase64_any (spA (mkR l)).2.1 (by omega) w'
  unfold sgA sgO sv at *
  show Calls _ _ _ _ fun q w' => q = .returned (.tuple #[.agg #[.string (spA (mkR l)).1, .string ⟨(Tx.fromB64 (spA (mkR l)).2.1.data.toList).1.toArray⟩], .bool _]) ∧ _
  have e1 : (⟨(Lib.trimPrefix l.data.toList (ByteArray.mk #[45, 32]).data.toList).toArray⟩ : ByteArray) = mkR l := rfl
  have e2 : Lib.hasPrefix l.data.toList (ByteArray.mk #[45, 32]).data.toList = mkB l := rfl
  rw [e1, e2] at i1
  clear e1 e2 z1 z2
  generalize spA (mkR l) = P at *
  generalize mkR l = M at *
  generalize mkB l = B at *
  obtain ⟨P1, P2, P3⟩ := P
  generalize Tx.fromB64 P2.data.toList = D at *
  obtain ⟨D1, D2⟩ := D
  simp only at i2 i3 ⊢
  have HW := hid hW
  unfold Hid at s0 b0
  rw [hW] at b0 s0
  obtain ⟨g, hg⟩ : ∃ g, w.heap.size = g := ⟨_, rfl⟩
  rw [hg] at s0
  have s0 := hid s0
  have b0 := hid b0
  have HG := hid hg
  clear hW hg
  go_enter Tryz.func82, Tryz.ntmps82
  go_upto_region 1 with fail
  rw [HW.out, HG.out]
  have fin : ∀ w3 : World, Below W.heap.size W w3 → w3.heap[g]? = some (.cells #[.string ⟨#[]⟩, .string ⟨#[]⟩] 32 (0, 0)) := fun w3 b => (b.block g (lt_of_heap s0.out)).trans s0.out
  have HF := hid fin
  have glt := hid (lt_of_heap s0.out)
  clear fin
  go_wp2_with (first
    | (go_at_call 98; (refine i1.mono ?_); rintro q w1 ⟨rfl, rfl⟩)
    | (go_at_call 99; (refine (i2 _).mono ?_); rintro q w2 ⟨rfl, b2⟩)
    | (go_at_call 81; (refine (i3 _).mono ?_); rintro q w3 ⟨rfl, b3⟩; have b4 := hid (b2.trans (b3.mono b2.size)); have S3 := hid (HF.out _ b4.out))
    | ((with_reducible show wpList _ _ _ (Oper.mk _ (Op.store 32 _ _) _ _ _ _ :: _) _ _); go_must (refine wpList_store_row rfl 32 _ _ rfl g _ rfl rfl 32 _ S3.out (sizeSgG _ _) rfl (oneSgG _ _) ?_)))
  all_goals refine bodyPost_ret (results_row_tmp22 rfl _ _ g 32 _ (0, 0) _ rfl (setRow_heap _ _ _ _ _ _ S3.out) Tryz.underlying32 rfl (sizeSgG _ _)) rfl ⟨?_, ?_⟩
  all_goals try exact b0.out.trans (Below.setRow (b4.out.mono b0.out.size) (by rw [← HG.out]; exact Nat.le_refl _) _)
  all_goals refine congrArg (fun b => Ending.returned (Value.tuple #[.agg #[.string P1, .string ⟨D1.toArray⟩], Value.bool b])) ?_
  all_goals clear i1 i2 HW HF s0 b0 S3 b4 b3 b2
  all_goals (cases B <;> cases P3 <;> first | rfl | (exfalso; rename_i h1; exact absurd rfl h1) | (exfalso; rename_i h1 h2; exact absurd h1 Bool.false_ne_true) | (exfalso; rename_i h1 h2; exact absurd h2 Bool.false_ne_true) | (exfalso; simp_all; done))
end Nt
end Go.Proofs.YtdbbemcddhgbcaaGreatDoor

/- Layer 22: a note's reader: its first four lines, in the program -/
namespace Go.Proofs.YtdbbemcddhgbcaaGreatDoor
open Go.RowKit Go.Shelf
namespace Nt
/-- a note while it is read -/
structure Nr where
  O : ByteArray
  z : Int
  R : ByteArray
  S : List Sg
/-- the next line is read -/
def stp (k : Nat) (t : Nr) (l : ByteArray) : Option Nr :=
  if k = 0 then (if nmB l.data.toList = true then some ⟨l, t.z, t.R, t.S⟩ else none)
  else if k = 1 then (match szB l with | some z => some ⟨t.O, z, t.R, t.S⟩ | none => none)
  else if k = 2 then (if (Tx.fromB64 l.data.toList).2 = 0 ∧ (Tx.fromB64 l.data.toList).1.length = 32 then some ⟨t.O, t.z, ⟨(Tx.fromB64 l.data.toList).1.toArray⟩, t.S⟩ else none)
  else if k = 3 then (if l.size = 0 then some t else none)
  else if sgO l = true ∧ (t.S ++ [sgA l]).length ≤ 16 ∧ allOk (t.S ++ [sgA l]) = true then some ⟨t.O, t.z, t.R, t.S ++ [sgA l]⟩ else none
/-- a reader -/
def Rb (w : World) (g : Nat) (t : Nr) (v : Value) (k : Nat) : Prop := w.heap[g]? = some (.cells #[.string t.O, .int .i64 t.z, .string t.R, v, .int .i64 (k : Int)] 66 (0, 0))
section
variable {w w' : World} {g k : Nat} {t : Nr} {v : Value}
theorem Rb.lt (h : Rb w g t v k) : g < w.heap.size := lt_of_heap h
theorem Rb.kept (h : Rb w g t v k) (e : w'.heap[g]? = w.heap[g]?) : Rb w' g t v k := e.trans h
theorem Rb.below (h : Rb w g t v k) (hb : Below w.heap.size w w') : Rb w' g t v k := h.kept (hb.block g h.lt)
theorem Rb.c0 (h : Rb w g t v k) : w.cell? ⟨g, 0, none⟩ = some (.string t.O) := by rw [cell_of_row w g 0 _ _ _ h]; rfl
theorem Rb.c1 (h : Rb w g t v k) : w.cell? ⟨g, 1, none⟩ = some (.int .i64 t.z) := by rw [cell_of_row w g 1 _ _ _ h]; rfl
theorem Rb.c2 (h : Rb w g t v k) : w.cell? ⟨g, 2, none⟩ = some (.string t.R) := by rw [cell_of_row w g 2 _ _ _ h]; rfl
theorem Rb.c3 (h : Rb w g t v k) : w.cell? ⟨g, 3, none⟩ = some v := by rw [cell_of_row w g 3 _ _ _ h]; rfl
theorem Rb.c4 (h : Rb w g t v k) : w.cell? ⟨g, 4, none⟩ = some (.int .i64 (k : Int)) := by rw [cell_of_row w g 4 _ _ _ h]; rfl
theorem Rb.fz (h : Rb w g t v k) (j : Nat) : w.frozen? ⟨g, j, none⟩ = false := frozen_of_row _ _ _ _ _ h
theorem Rb.set0 (h : Rb w g t v k) (x : ByteArray) : Rb (w.setCell ⟨g, 0, none⟩ (.string x)) g ⟨x, t.z, t.R, t.S⟩ v k := by
  unfold Rb
  rw [setCell_eq_setRow w g 0 _ _ _ _ h]
  exact setRow_heap _ _ _ _ _ _ h
theorem Rb.set1 (h : Rb w g t v k) (x : Int) : Rb (w.setCell ⟨g, 1, none⟩ (.int .i64 x)) g ⟨t.O, x, t.R, t.S⟩ v k := by
  unfold Rb
  rw [setCell_eq_setRow w g 1 _ _ _ _ h]
  exact setRow_heap _ _ _ _ _ _ h
theorem Rb.set2 (h : Rb w g t v k) (x : ByteArray) : Rb (w.setCell ⟨g, 2, none⟩ (.string x)) g ⟨t.O, t.z, x, t.S⟩ v k := by
  unfold Rb
  rw [setCell_eq_setRow w g 2 _ _ _ _ h]
  exact setRow_heap _ _ _ _ _ _ h
theorem Rb.set3 (h : Rb w g t v k) (x : Value) (S : List Sg) : Rb (w.setCell ⟨g, 3, none⟩ x) g ⟨t.O, t.z, t.R, S⟩ x k := by
  unfold Rb
  rw [setCell_eq_setRow w g 3 _ _ _ _ h]
  exact setRow_heap _ _ _ _ _ _ h
theorem Rb.set4 (h : Rb w g t v k) (x : Nat) : Rb (w.setCell ⟨g, 4, none⟩ (.int .i64 (x : Int))) g t v x := by
  unfold Rb
  rw [setCell_eq_setRow w g 4 _ _ _ _ h]
  exact setRow_heap _ _ _ _ _ _ h
end
/-- a reader with its list -/
def Rs (w : World) (g : Nat) (t : Nr) (k : Nat) : Prop := ∃ v, Rb w g t v k ∧ Wz.OwnM 2 w v t.S.length (sgs t.S) ∧ ∀ q, v.ownBlock = some q → g < q
/-- what take leaves -/
def TkQ (t : Nr) (k : Nat) (l : ByteArray) (g : Nat) (q : Ending) (w' : World) : Prop := q = .returned (.bool (stp k t l).isSome) ∧ ∃ t', Rs w' g t' k ∧ ∀ t1, stp k t l = some t1 → t' = t1
section
variable {w w' : World} {g k : Nat} {t : Nr} {v : Value}
theorem Rs.below (h : Rs w g t k) (hb : Below w.heap.size w w') : Rs w' g t k := by
  obtain ⟨v, h1, h2, h3⟩ := h
  exact ⟨v, h1.below hb, h2.below hb, h3⟩
theorem Rs.lt (h : Rs w g t k) : g < w.heap.size := by
  obtain ⟨v, h1, _⟩ := h
  exact h1.lt
theorem own_set {g : Nat} {L : List Sg} (j : Nat) (h2 : Wz.OwnM 2 w v L.length (sgs L)) (h3 : ∀ q, v.ownBlock = some q → g < q) (x : Value) : Wz.OwnM 2 (w.setCell ⟨g, j, none⟩ x) v L.length (sgs L) :=
  h2.kept ((But.refl g w).setCell j x).size (fun q hq => ((But.refl g w).setCell j x).block q (h2.lt q hq) (by have := h3 q hq; omega))
end
theorem line_any {w : World} {g : Nat} {t : Nr} {v : Value} {k : Nat} (h : Rb w g t v k) (hk : k ≤ 9223372036854775806) : Calls Tryz.prog 37 #[.pointer (some ⟨g, 0, none⟩)] w fun q w' => q = .returned (.int .i64 ((k + 1 : Nat) : Int)) ∧ w' = w := by
  have c4 := h.c4
  have t1 : IntKind.i64.wrap ((k : Int) + 1) = ((k + 1 : Nat) : Int) := by rw [IntKind.wrap_i64]; omega
  clear h
  go_enter Tryz.func37, Tryz.ntmps37
  go_wp2
  go_ret
  exact ⟨rfl, rfl⟩
set_option maxRecDepth 100000 in
set_option maxHeartbeats 4000000 in
theorem take_0 {w : World} {g : Nat} {t : Nr} (h : Rs w g t 0) (l : ByteArray) : Calls Tryz.prog 58 #[.pointer (some ⟨g, 0, none⟩), .string l] w fun q w' => TkQ t 0 l g q w' ∧ Below g w w' := by
  obtain ⟨v, h1, h2, h3⟩ := h
  have i1 := line_any h1 (by omega)
  have c0 := h1.c0
  have f0 := h1.fz 0
  have i2 := isName_any l (w.setCell ⟨g, 0, none⟩ (.string l))
  have HB := hid (((Below.refl w.heap.size w).mono (Nat.le_of_lt h1.lt)).setCell (p := ⟨g, 0, none⟩) (Nat.le_refl _) (.string l))
  have HR : Hid (Rs (w.setCell ⟨g, 0, none⟩ (.string l)) g ⟨l, t.z, t.R, t.S⟩ 0) := hid ⟨v, h1.set0 l, own_set 0 h2 h3 _, h3⟩
  clear h1 h2 h3
  have HS : Hid ((stp 0 t l).isSome = nmB l.data.toList ∧ ∀ t1, stp 0 t l = some t1 → t1 = ⟨l, t.z, t.R, t.S⟩) := by
    unfold Hid stp
    rw [if_pos rfl]
    cases nmB l.data.toList with
    | true => exact ⟨rfl, fun t1 e => (Option.some.inj e).symm⟩
    | false => exact ⟨rfl, fun t1 e => by cases e⟩
  go_enter Tryz.func58, Tryz.ntmps58
  go_wp2_with (first
    | (go_at_call 37; (refine i1.mono ?_); rintro q w1 ⟨rfl, h0⟩; have h0 := h0.symm; subst h0)
    | (go_at_call 50; (refine i2.mono ?_); rintro q w2 ⟨rfl, b2⟩))
  go_ret
  exact ⟨⟨by rw [HS.out.1]; rfl, _, HR.out.below b2, fun t1 e => (HS.out.2 t1 e).symm⟩, HB.out.trans (b2.mono (Nat.le_of_lt HR.out.lt))⟩
set_option maxRecDepth 100000 in
set_option maxHeartbeats 4000000 in
theorem take_1 {E : Es} {w : World} (hN : Nw w E) {g : Nat} {t : Nr} (h : Rs w g t 1) (l : ByteArray) (hl : l.size ≤ 140737488355328) : Calls Tryz.prog 58 #[.pointer (some ⟨g, 0, none⟩), .string l] w fun q w' => TkQ t 1 l g q w' ∧ Below g w w' := by
  obtain ⟨v, h1, h2, h3⟩ := h
  have i1 := line_any h1 (by omega)
  have i2 := sizeOf_any hN l hl
  have HL := hid h1.lt
  have HC := hid (fun (w' : World) (b : Below w.heap.size w w') => (h1.below b).c1)
  have HF := hid (fun (w' : World) (b : Below w.heap.size w w') => (h1.below b).fz 1)
  have HR : Hid (∀ (w' : World) (z : Int), Below w.heap.size w w' → Rs (w'.setCell ⟨g, 1, none⟩ (.int .i64 z)) g ⟨t.O, z, t.R, t.S⟩ 1) := hid (fun w' z b => ⟨v, (h1.below b).set1 z, own_set 1 (h2.below b) h3 _, h3⟩)
  clear h1 h2 h3 hN
  have HS : Hid (∀ z b, SzP l z b → (stp 1 t l).isSome = b ∧ ∀ t1, stp 1 t l = some t1 → t1 = ⟨t.O, z, t.R, t.S⟩) := by
    intro z b hz
    unfold stp
    rw [if_neg (by decide), if_pos rfl]
    rcases hz.of with ⟨e, rfl⟩ | ⟨e, rfl⟩
    · rw [e]; exact ⟨rfl, fun t1 e => (Option.some.inj e).symm⟩
    · rw [e]; exact ⟨rfl, fun t1 e => by cases e⟩
  go_enter Tryz.func58, Tryz.ntmps58
  go_wp2_with (first
    | (go_at_call 37; (refine i1.mono ?_); rintro q w1 ⟨rfl, h0⟩; have h0 := h0.symm; subst h0)
    | (go_at_call 80; (refine i2.mono ?_); rintro q w2 ⟨⟨z, b, rfl, hz⟩, b2⟩; have hz := hid hz; have B2 := hid b2; have c1 := HC.out w2 b2; have f1 := HF.out w2 b2; clear b2))
  go_ret
  have hs := HS.out z b hz.out
  exact ⟨⟨by rw [hs.1]; rfl, _, HR.out w2 z B2.out, fun t1 e => (hs.2 t1 e).symm⟩, (B2.out.mono (Nat.le_of_lt HL.out)).setCell (p := ⟨g, 1, none⟩) (Nat.le_refl _) _⟩
set_option maxRecDepth 100000 in
set_option maxHeartbeats 4000000 in
theorem take_2 {w : World} {g : Nat} {t : Nr} (h : Rs w g t 2) (l : ByteArray) (hl : l.size ≤ 140737488355328) : Calls Tryz.prog 58 #[.pointer (some ⟨g, 0, none⟩), .string l] w fun q w' => TkQ t 2 l g q w' ∧ Below g w w' := by
  obtain ⟨v, h1, h2, h3⟩ := h
  have i1 := line_any h1 (by omega)
  have i2 := fromBase64_any l hl w
  have HL := hid h1.lt
  have HC := hid (fun (w' : World) (b : Below w.heap.size w w') => (h1.below b).c2)
  have HF := hid (fun (w' : World) (b : Below w.heap.size w w') => (h1.below b).fz 2)
  have HR : Hid (∀ (w' : World) (x : ByteArray), Below w.heap.size w w' → Rs (w'.setCell ⟨g, 2, none⟩ (.string x)) g ⟨t.O, t.z, x, t.S⟩ 2) := hid (fun w' z b => ⟨v, (h1.below b).set2 z, own_set 2 (h2.below b) h3 _, h3⟩)
  clear h1 h2 h3
  have HS : Hid (stp 2 t l = if (Tx.fromB64 l.data.toList).2 = 0 ∧ (Tx.fromB64 l.data.toList).1.length = 32 then some ⟨t.O, t.z, ⟨(Tx.fromB64 l.data.toList).1.toArray⟩, t.S⟩ else none) := rfl
  unfold sv at i2
  generalize Tx.fromB64 l.data.toList = D at *
  obtain ⟨D1, D2⟩ := D
  simp only at i2 HS
  have e32 : (⟨D1.toArray⟩ : ByteArray).size = D1.length := sv_size D1
  have HB := hid (fun (w2 : World) (b : Below w.heap.size w w2) => (b.mono (Nat.le_of_lt HL.out)).setCell (p := ⟨g, 2, none⟩) (Nat.le_refl _) (.string ⟨D1.toArray⟩))
  by_cases hz : D2 = 0
  · subst hz
    by_cases hn : D1.length = 32
    · have hn' : ((⟨D1.toArray⟩ : ByteArray).size : Int) = 32 := by rw [e32]; omega
      have hn2 : (D1.length : Int) = 32 := by omega
      have HT := hid (HS.out.trans (if_pos ⟨rfl, hn⟩))
      clear HS
      clear hn e32
      go_enter Tryz.func58, Tryz.ntmps58
      go_wp2_with (first
        | (go_at_call 37; (refine i1.mono ?_); rintro q w1 ⟨rfl, h0⟩; have h0 := h0.symm; subst h0)
        | (go_at_call 81; (refine i2.mono ?_); rintro q w2 ⟨rfl, b2⟩; have B2 := hid b2; have c1 := HC.out w2 b2; have f1 := HF.out w2 b2; clear b2))
      go_ret
      exact ⟨⟨by rw [HT.out]; rfl, _, HR.out w2 _ B2.out, fun t1 e => by rw [HT.out] at e; exact Option.some.inj e⟩, HB.out w2 B2.out⟩
    · have hn' : ¬ ((⟨D1.toArray⟩ : ByteArray).size : Int) = 32 := by rw [e32]; omega
      have hn2 : ((D1.length : Int) == 32) = false := by rw [beq_eq_false_iff_ne]; omega
      have HT := hid (HS.out.trans (if_neg fun e => hn e.2))
      clear HS
      clear hn e32
      go_enter Tryz.func58, Tryz.ntmps58
      go_wp2_with (first
        | (go_at_call 37; (refine i1.mono ?_); rintro q w1 ⟨rfl, h0⟩; have h0 := h0.symm; subst h0)
        | (go_at_call 81; (refine i2.mono ?_); rintro q w2 ⟨rfl, b2⟩; have B2 := hid b2; have c1 := HC.out w2 b2; have f1 := HF.out w2 b2; clear b2))
      go_ret
      exact ⟨⟨by rw [HT.out]; rfl, _, HR.out w2 _ B2.out, fun t1 e => by rw [HT.out] at e; cases e⟩, HB.out w2 B2.out⟩
  · have HT := hid (HS.out.trans (if_neg fun e => hz e.1))
    clear HS
    go_enter Tryz.func58, Tryz.ntmps58
    go_wp2_with (first
      | (go_at_call 37; (refine i1.mono ?_); rintro q w1 ⟨rfl, h0⟩; have h0 := h0.symm; subst h0)
      | (go_at_call 81; (refine i2.mono ?_); rintro q w2 ⟨rfl, b2⟩; have B2 := hid b2; have c1 := HC.out w2 b2; have f1 := HF.out w2 b2; clear b2))
    go_ret
    exact ⟨⟨by rw [HT.out]; rfl, _, HR.out w2 _ B2.out, fun t1 e => by rw [HT.out] at e; cases e⟩, HB.out w2 B2.out⟩
set_option maxRecDepth 100000 in
set_option maxHeartbeats 4000000 in
theorem take_3 {w : World} {g : Nat} {t : Nr} (h : Rs w g t 3) (l : ByteArray) : Calls Tryz.prog 58 #[.pointer (some ⟨g, 0, none⟩), .string l] w fun q w' => TkQ t 3 l g q w' ∧ Below g w w' := by
  have HR := hid h
  obtain ⟨v, h1, h2, h3⟩ := h
  have i1 := line_any h1 (by omega)
  clear h1 h2 h3
  have e0 : (⟨#[]⟩ : ByteArray).toList = [] := by simp [ByteArray.toList_eq]
  by_cases hz : l.size = 0
  · have HS : Hid (stp 3 t l = some t) := by unfold Hid stp; rw [if_neg (by decide), if_neg (by decide), if_neg (by decide), if_pos rfl, if_pos hz]
    obtain rfl : l = ⟨#[]⟩ := by
      apply Go.WideShapes.bytes_inj
      have := dlen l
      rw [hz] at this
      rw [List.length_eq_zero_iff.1 this]
    clear hz
    go_enter Tryz.func58, Tryz.ntmps58
    go_wp2_with (first
      | (go_at_call 37; (refine i1.mono ?_); rintro q w1 ⟨rfl, h0⟩; have h0 := h0.symm; subst h0))
    go_ret
    exact ⟨⟨by rw [HS.out]; rfl, _, HR.out, fun t1 e => by rw [HS.out] at e; exact Option.some.inj e⟩, Below.refl _ _⟩
  · have HS : Hid (stp 3 t l = none) := by unfold Hid stp; rw [if_neg (by decide), if_neg (by decide), if_neg (by decide), if_pos rfl, if_neg hz]
    have hb := ba_ne (a := l) (b := ⟨#[]⟩) (fun e => hz (by rw [e]; rfl))
    rw [e0] at hb
    clear hz
    go_enter Tryz.func58, Tryz.ntmps58
    go_wp2_with (first
      | (go_at_call 37; (refine i1.mono ?_); rintro q w1 ⟨rfl, h0⟩; have h0 := h0.symm; subst h0))
    go_ret
    exact ⟨⟨by rw [HS.out]; rfl, _, HR.out, fun t1 e => by rw [HS.out] at e; cases e⟩, Below.refl _ _⟩
end Nt
end Go.Proofs.YtdbbemcddhgbcaaGreatDoor
