import Derived.Test.YtdbbemcddhgbcaaGreatDoorPpND1
import Derived.Test.YtdbbemcddhgbcaaGreatDoorPpNG3
import Derived.Test.YtdbbemcddhgbcaaGreatDoorPpNA6
/- Layer 22, the law: what is lent is kept -/
namespace Go.Proofs.YtdbbemcddhgbcaaGreatDoor
open Go.RowKit Go.Shelf
namespace Nt
theorem bw_drewN {B : Nat} {a w : World} (h : Below B a w) (n : Nat) : Below B a (w.drewN n) := ⟨h.os, h.tape, h.output, h.size, h.block⟩
theorem beh_get (S : List Sg) (j : Nat) (h : j < 8) : (S ++ beh 8)[S.length + j]? = some bhd := by
  rw [List.getElem?_append_right (by omega), Nat.add_sub_cancel_left]
  unfold beh
  rw [List.getElem?_append_left (by rw [List.length_replicate]; exact h), List.getElem?_replicate]
  simp; omega
set_option maxRecDepth 100000 in
set_option maxHeartbeats 8000000 in
theorem kept22_any (S : List Sg) (n : Nat) (hn : Hid (S.length = n)) (hn2 : n ≤ 8796093022000) (H c : Nat) (a : Option Addr) (cap : Nat) (w : World) (hR : RowG w H (S ++ beh 8)) (hA : AtS w a S) :
    Calls Tryz.prog 20 #[.slice (some ⟨H, 0, none⟩) (n + 8) c, .slice a n cap] w fun e w' => e = .returned (.bool true) ∧ Below w.heap.size w w' ∧ w'.heap = w.heap := by
  have HR := hid hR
  have HA := hid hA
  clear hR hA
  obtain ⟨N, hN⟩ : ∃ N, n + 8 = N := ⟨_, rfl⟩
  rw [hN]
  go_enter Tryz.func20, Tryz.ntmps20
  go_wp2
  go_loopw [5] (fun i w' => ∃ j : Nat, j ≤ N ∧ i = .int .i64 (j : Int) ∧ Hid (Below w.heap.size w w' ∧ w'.heap = w.heap)) (fun i _ => N - (intOf i).toNat)
  case atStart => exact ⟨0, by omega, rfl, hid ⟨Below.refl _ _, rfl⟩⟩
  case round =>
    obtain ⟨j, hj, rfl, hB⟩ := hrel
    by_cases hjN : j < N
    · have b0 : (j : Int) < (N : Int) := by omega
      have j0 : (0 : Int) ≤ (j : Int) := by omega
      by_cases hjn : j < n
      · have b1 : (j : Int) < (n : Int) := by omega
        have b2 : ¬ (n : Int) ≤ (j : Int) := by omega
        have b3 : ¬ n ≤ j := by omega
        obtain ⟨⟨X, Y⟩, hz⟩ : ∃ z, S[j]? = some z := ⟨_, List.getElem?_eq_getElem (by rw [hn.out]; exact hjn)⟩
        have c0 := HR.out.cell (j := j) (q := (X, Y)) (by rw [List.getElem?_append_left (by rw [hn.out]; exact hjn)]; exact hz)
        obtain ⟨x, rfl, xb, c1⟩ := HA.out j _ hz
        rw [← hB.out.1.cell (p := ⟨H, j * 2, none⟩) HR.out.lt, ← hB.out.1.cell (p := ⟨H, j * 2 + 1, none⟩) HR.out.lt] at c0
        rw [← hB.out.1.cell (p := x.add (j * 2)) (by rw [adr_block]; exact xb), ← hB.out.1.cell (p := ⟨(x.add (j * 2)).block, (x.add (j * 2)).off + 1, none⟩) (by show (x.add (j * 2)).block < _; rw [adr_block]; exact xb)] at c1
        obtain ⟨c0, c0'⟩ := c0
        obtain ⟨c1, c1'⟩ := c1
        clear hz xb
        go_wp2
        go_quiet (fail)
        go_wp2
        exact ⟨⟨j + 1, by omega, by go_num, hid ⟨bw_drewN hB.out.1 _, hB.out.2⟩⟩, by simp [intOf]; omega⟩
      · have b1 : ¬ (j : Int) < (n : Int) := by omega
        have b2 : (n : Int) ≤ (j : Int) := by omega
        have c0 := HR.out.cell (j := j) (q := bhd) (by have := beh_get S (j - n) (by omega); rw [hn.out, show n + (j - n) = j by omega] at this; exact this)
        rw [← hB.out.1.cell (p := ⟨H, j * 2, none⟩) HR.out.lt, ← hB.out.1.cell (p := ⟨H, j * 2 + 1, none⟩) HR.out.lt] at c0
        obtain ⟨c0, c0'⟩ := c0
        unfold bhd at c0 c0'
        go_wp2
        go_quiet (fail)
        go_wp2
        exact ⟨⟨j + 1, by omega, by go_num, hid ⟨bw_drewN hB.out.1 _, hB.out.2⟩⟩, by simp [intOf]; omega⟩
    · have b0 : ¬ (j : Int) < (N : Int) := by omega
      go_wp2
      go_ret
      exact ⟨rfl, hB.out.1, hB.out.2⟩
end Nt
end Go.Proofs.YtdbbemcddhgbcaaGreatDoor

/- Layer 22, the law: the same note with other data -/
namespace Go.Proofs.YtdbbemcddhgbcaaGreatDoor
open Go.RowKit Go.Shelf
namespace Nt
def addx (q : Sg) : Sg := (q.1, q.2 ++ ⟨#[120]⟩)
def mix (S : List Sg) (j : Nat) : List Sg := (S.take j).map addx ++ S.drop j
theorem mix_zero (S : List Sg) : mix S 0 = S := by simp [mix]
theorem mix_all (S : List Sg) : mix S S.length = S.map addx := by simp [mix]
theorem mix_len (S : List Sg) (j : Nat) : (mix S j).length = S.length := by
  unfold mix
  rw [List.length_append, List.length_map, List.length_take, List.length_drop]
  omega
theorem mix_at {S : List Sg} {j : Nat} {q : Sg} (h : S[j]? = some q) (R : List Sg) : (mix S j ++ R)[j]? = some q := by
  have hj := (List.getElem?_eq_some_iff.1 h).1
  rw [List.getElem?_append_left (by rw [mix_len]; exact hj)]
  unfold mix
  rw [List.getElem?_append_right (by rw [List.length_map, List.length_take]; omega), List.length_map, List.length_take, Nat.min_eq_left (by omega), Nat.sub_self, List.getElem?_drop, Nat.add_zero]
  exact h
theorem take_addx {S : List Sg} {j : Nat} {q : Sg} (h : S[j]? = some q) : (S.take (j + 1)).map addx = (S.take j).map addx ++ [addx q] := by
  rw [List.take_add_one, h, List.map_append]
  rfl
theorem mix_step {S : List Sg} {j : Nat} {q : Sg} (h : S[j]? = some q) (R : List Sg) : (mix S j ++ R).set j (addx q) = mix S (j + 1) ++ R := by
  have hj := (List.getElem?_eq_some_iff.1 h).1
  have hl : ((S.take j).map addx).length = j := by rw [List.length_map, List.length_take]; omega
  have e : S.drop j = q :: S.drop (j + 1) := by
    rw [List.drop_eq_getElem_cons hj]
    congr 1
    rw [List.getElem?_eq_getElem hj] at h
    exact Option.some.inj h
  unfold mix
  rw [List.append_assoc, List.set_append_right _ _ (by omega), hl, Nat.sub_self, e, List.cons_append, List.set_cons_zero, take_addx h]
  simp
theorem sgs_one_more (l : List Sg) (x y : ByteArray) : sgs l ++ [.string x, .string y] = sgs (l ++ [(x, y)]) := by rw [sgs_app]; rfl
/-- append(l, one signature) -/
theorem append_sg (w : World) (v : Value) (l : List Sg) (x y : ByteArray) (hown : Wz.OwnM 2 w v l.length (sgs l)) (hb : l.length ≤ 4398046511000) :
    ∃ v' w', (Builtin.append_ #[24, 24] 24 #[v, .slice (some ⟨w.heap.size, 0, none⟩) 1 1]).run Tryz.prog (w.alloc (.cells #[.string x, .string y] 32)) = .ok v' w' ∧ Wz.OwnM 2 w' v' (l.length + 1) (sgs (l ++ [(x, y)])) ∧ Wz.Grow w w' v v' := by
  have h := Wz.append_oneL 24 32 (.agg #[.string ⟨#[]⟩, .string ⟨#[]⟩]) 32 Tryz.underlying24 infoSg rfl w v l.length (sgs l) [.string x, .string y] rfl (fun u hu => by
    simp only [List.mem_cons, List.not_mem_nil, or_false] at hu
    rcases hu with rfl | rfl <;> rfl) hown (by omega) (by rw [maxLen]; omega)
  rw [sgs_one_more] at h
  exact h
theorem ownM_atS {w : World} {v : Value} {l : List Sg} {n : Nat} (h : Wz.OwnM 2 w v n (sgs l)) : ∃ a cap, v = .slice a n cap ∧ AtS w a l ∧ AtF w a l := by
  rcases h with ⟨rfl, h1, h2⟩ | ⟨g, cap, rfl, h2, h3, h0, h4, h5, h6⟩
  · have : l = [] := by
      cases l with
      | nil => rfl
      | cons q l => rw [sgs_cons] at h2; simp at h2
    subst this
    exact ⟨none, 0, by rw [h1], AtS.nil _ _, fun j v hv => by simp [sgs] at hv⟩
  · refine ⟨_, cap, rfl, fun j q hq => ⟨_, rfl, h6, ?_, ?_⟩, fun j u hu => ⟨_, rfl, h6, ?_⟩⟩
    · rw [Addr.add_mid]; exact h4 _ _ (sgs_get hq).1
    · rw [Addr.add_mid]; have := h4 _ _ (sgs_get hq).2; simpa using this
    · rw [Addr.add_mid]; exact h4 _ _ hu
end Nt
end Go.Proofs.YtdbbemcddhgbcaaGreatDoor

/- Layer 22, the law: one round of the note with other data -/
namespace Go.Proofs.YtdbbemcddhgbcaaGreatDoor
open Go.RowKit Go.Shelf
namespace Nt
/-- what stands while the other note grows -/
structure Lp (w0 : World) (g g2 g3 H : Nat) (O : ByteArray) (z : Int) (R : ByteArray) (va vh : Value) (S : List Sg) (j : Nat) (v : Value) (w' : World) : Prop where
  b : Below g w0 w'
  x0 : Bx w' g O z R va
  x2 : Bx w' g2 O z R vh
  x3 : Bx w' g3 O z R v
  row : RowG w' H (mix S j ++ beh 8)
  own : Wz.OwnM 2 w' v j (sgs ((S.take j).map addx))
  fr : ∀ k, v.ownBlock = some k → g3 < k
theorem Bx.kept {w w' : World} {g : Nat} {O R : ByteArray} {z : Int} {v : Value} (h : Bx w g O z R v) (e : w'.heap[g]? = w.heap[g]?) : Bx w' g O z R v := e.trans h
theorem RowG.kept {w w' : World} {H : Nat} {l : List Sg} (h : RowG w H l) (e : w'.heap[H]? = w.heap[H]?) : RowG w' H l := e.trans h
theorem Lp.drew {w0 w' : World} {g g2 g3 H : Nat} {O R : ByteArray} {z : Int} {va vh v : Value} {S : List Sg} {j : Nat} (h : Lp w0 g g2 g3 H O z R va vh S j v w') : Lp w0 g g2 g3 H O z R va vh S j v w'.drew := ⟨⟨h.b.os, h.b.tape, h.b.output, h.b.size, h.b.block⟩, h.x0, h.x2, h.x3, h.row, h.own, h.fr⟩
theorem Lp.step {w0 wr : World} {g g2 g3 H : Nat} {O R : ByteArray} {z : Int} {va vh v : Value} {S : List Sg} {j : Nat} (h : Lp w0 g g2 g3 H O z R va vh S j v wr) (hs : g < g2 ∧ g < H ∧ H < g2 ∧ g2 < g3) {X Y : ByteArray} (hq : S[j]? = some (X, Y)) (hn : S.length ≤ 4398046511000) :
    ∃ v' wb, (Builtin.append_ #[24, 24] 24 #[v, .slice (some ⟨wr.heap.size, 0, none⟩) 1 1]).run Tryz.prog ((wr.setCell ⟨H, j * 2 + 1, none⟩ (.string (Y ++ ⟨#[120]⟩))).alloc (.cells #[.string X, .string (Y ++ ⟨#[120]⟩)] 32)) = .ok v' wb ∧
      Lp w0 g g2 g3 H O z R va vh S (j + 1) v' (wb.setCell ⟨g3, 3, none⟩ v') ∧ Bx wb g3 O z R v ∧ RowG wb H (mix S (j + 1) ++ beh 8) ∧
      Bx (wr.setCell ⟨H, j * 2 + 1, none⟩ (.string (Y ++ ⟨#[120]⟩))) g3 O z R v ∧ RowG (wr.setCell ⟨H, j * 2 + 1, none⟩ (.string (Y ++ ⟨#[120]⟩))) H (mix S (j + 1) ++ beh 8) := by
  have hj := (List.getElem?_eq_some_iff.1 hq).1
  have hl : ((S.take j).map addx).length = j := by rw [List.length_map, List.length_take]; omega
  have hl2 : j * 2 + 1 < ((mix S j ++ beh 8).length) * 2 := by rw [List.length_append, mix_len]; omega
  have hb : But H wr (wr.setCell ⟨H, j * 2 + 1, none⟩ (.string (Y ++ ⟨#[120]⟩))) := (But.refl H wr).setCell _ _
  have hrow := h.row.set1 (mix_at hq (beh 8)) (Y ++ ⟨#[120]⟩)
  rw [show (X, Y ++ ⟨#[120]⟩) = addx (X, Y) from rfl, mix_step hq (beh 8)] at hrow
  have l0 := lt_of_heap h.x0
  have l2 := lt_of_heap h.x2
  have l3 := lt_of_heap h.x3
  have a0 := h.x0.kept (hb.block g l0 (by omega))
  have a2 := h.x2.kept (hb.block g2 l2 (by omega))
  have a3 := h.x3.kept (hb.block g3 l3 (by omega))
  have ao := h.own.kept hb.size (fun k hk => hb.block k (h.own.lt k hk) (by have := h.fr k hk; omega))
  have ab := h.b.setCell (p := ⟨H, j * 2 + 1, none⟩) (by show g ≤ H; omega) (.string (Y ++ ⟨#[120]⟩))
  have hsz : (wr.setCell ⟨H, j * 2 + 1, none⟩ (.string (Y ++ ⟨#[120]⟩))).heap.size = wr.heap.size := by simp [World.setCell]
  generalize wr.setCell ⟨H, j * 2 + 1, none⟩ (.string (Y ++ ⟨#[120]⟩)) = wa at *
  have ao' : Wz.OwnM 2 wa v ((S.take j).map addx).length (sgs ((S.take j).map addx)) := by rw [hl]; exact ao
  obtain ⟨v', wb, h1, h2, h3⟩ := append_sg wa v ((S.take j).map addx) X (Y ++ ⟨#[120]⟩) ao' (by rw [hl]; omega)
  rw [hsz] at h1
  rw [hl, show (X, Y ++ ⟨#[120]⟩) = addx (X, Y) from rfl, ← take_addx hq] at h2
  have hold : ∀ k, k ≤ g3 → wb.heap[k]? = wa.heap[k]? := fun k hk => h3.old k (by omega) (fun e => by have := h.fr k e; omega)
  have b0 := a0.kept (hold g (by omega))
  have b2 := a2.kept (hold g2 (by omega))
  have b3 := a3.kept (hold g3 (by omega))
  have br := hrow.kept (hold H (by omega))
  have E := setCell_eq_setRow wb g3 3 _ 26 (0, 0) v' b3
  have cb : But g3 wb (wb.setCell ⟨g3, 3, none⟩ v') := (But.refl g3 wb).setCell _ _
  have hfr : ∀ k, v'.ownBlock = some k → g3 < k := fun k hk => by
    rcases h3.alt with e | ⟨e, _⟩
    · exact h.fr k (by rw [← e]; exact hk)
    · have := e k hk; omega
  have sb := h3.size
  refine ⟨v', wb, h1, ⟨?_, b0.kept (cb.block g (by omega) (by omega)), b2.kept (cb.block g2 (by omega) (by omega)), ?_, br.kept (cb.block H (by omega) (by omega)), h2.kept cb.size (fun k hk => cb.block k (h2.lt k hk) (by have := hfr k hk; omega)), hfr⟩, b3, br, a3, hrow⟩
  · refine Below.setCell (ab.trans ⟨h3.os, h3.tape, h3.output, h3.size, fun k hk => ?_⟩) (by show g ≤ g3; omega) _
    exact hold k (by omega)
  · rw [E]; exact setRow_heap _ _ _ _ _ _ b3
end Nt
end Go.Proofs.YtdbbemcddhgbcaaGreatDoor

/- Layer 22: a note's reader: its first four lines, in the program -/
namespace Go.Proofs.YtdbbemcddhgbcaaGreatDoor
open Go.RowKit Go.Shelf
namespace Nt
/-- a note while it is read -/
structure Nr where
  O : ByteArray
  z : Int
  R : ByteArray
  S : List Sg
/-- the next line is read -/
def stp (k : Nat) (t : Nr) (l : ByteArray) : Option Nr :=
  if k = 0 then (if nmB l.data.toList = true then some ⟨l, t.z, t.R, t.S⟩ else none)
  else if k = 1 then (match szB l with | some z => some ⟨t.O, z, t.R, t.S⟩ | none => none)
  else if k = 2 then (if (Tx.fromB64 l.data.toList).2 = 0 ∧ (Tx.fromB64 l.data.toList).1.length = 32 then some ⟨t.O, t.z, ⟨(Tx.fromB64 l.data.toList).1.toArray⟩, t.S⟩ else none)
  else if k = 3 then (if l.size = 0 then some t else none)
  else if sgO l = true ∧ (t.S ++ [sgA l]).length ≤ 16 ∧ allOk (t.S ++ [sgA l]) = true then some ⟨t.O, t.z, t.R, t.S ++ [sgA l]⟩ else none
/-- a reader -/
def Rb (w : World) (g : Nat) (t : Nr) (v : Value) (k : Nat) : Prop := w.heap[g]? = some (.cells #[.string t.O, .int .i64 t.z, .string t.R, v, .int .i64 (k : Int)] 66 (0, 0))
section
variable {w w' : World} {g k : Nat} {t : Nr} {v : Value}
theorem Rb.lt (h : Rb w g t v k) : g < w.heap.size := lt_of_heap h
theorem Rb.kept (h : Rb w g t v k) (e : w'.heap[g]? = w.heap[g]?) : Rb w' g t v k := e.trans h
theorem Rb.below (h : Rb w g t v k) (hb : Below w.heap.size w w') : Rb w' g t v k := h.kept (hb.block g h.lt)
theorem Rb.c0 (h : Rb w g t v k) : w.cell? ⟨g, 0, none⟩ = some (.string t.O) := by rw [cell_of_row w g 0 _ _ _ h]; rfl
theorem Rb.c1 (h : Rb w g t v k) : w.cell? ⟨g, 1, none⟩ = some (.int .i64 t.z) := by rw [cell_of_row w g 1 _ _ _ h]; rfl
theorem Rb.c2 (h : Rb w g t v k) : w.cell? ⟨g, 2, none⟩ = some (.string t.R) := by rw [cell_of_row w g 2 _ _ _ h]; rfl
theorem Rb.c3 (h : Rb w g t v k) : w.cell? ⟨g, 3, none⟩ = some v := by rw [cell_of_row w g 3 _ _ _ h]; rfl
theorem Rb.c4 (h : Rb w g t v k) : w.cell? ⟨g, 4, none⟩ = some (.int .i64 (k : Int)) := by rw [cell_of_row w g 4 _ _ _ h]; rfl
theorem Rb.fz (h : Rb w g t v k) (j : Nat) : w.frozen? ⟨g, j, none⟩ = false := frozen_of_row _ _ _ _ _ h
theorem Rb.set0 (h : Rb w g t v k) (x : ByteArray) : Rb (w.setCell ⟨g, 0, none⟩ (.string x)) g ⟨x, t.z, t.R, t.S⟩ v k := by
  unfold Rb
  rw [setCell_eq_setRow w g 0 _ _ _ _ h]
  exact setRow_heap _ _ _ _ _ _ h
theorem Rb.set1 (h : Rb w g t v k) (x : Int) : Rb (w.setCell ⟨g, 1, none⟩ (.int .i64 x)) g ⟨t.O, x, t.R, t.S⟩ v k := by
  unfold Rb
  rw [setCell_eq_setRow w g 1 _ _ _ _ h]
  exact setRow_heap _ _ _ _ _ _ h
theorem Rb.set2 (h : Rb w g t v k) (x : ByteArray) : Rb (w.setCell ⟨g, 2, none⟩ (.string x)) g ⟨t.O, t.z, x, t.S⟩ v k := by
  unfold Rb
  rw [setCell_eq_setRow w g 2 _ _ _ _ h]
  exact setRow_heap _ _ _ _ _ _ h
theorem Rb.set3 (h : Rb w g t v k) (x : Value) (S : List Sg) : Rb (w.setCell ⟨g, 3, none⟩ x) g ⟨t.O, t.z, t.R, S⟩ x k := by
  unfold Rb
  rw [setCell_eq_setRow w g 3 _ _ _ _ h]
  exact setRow_heap _ _ _ _ _ _ h
theorem Rb.set4 (h : Rb w g t v k) (x : Nat) : Rb (w.setCell ⟨g, 4, none⟩ (.int .i64 (x : Int))) g t v x := by
  unfold Rb
  rw [setCell_eq_setRow w g 4 _ _ _ _ h]
  exact setRow_heap _ _ _ _ _ _ h
end
/-- a reader with its list -/
def Rs (w : World) (g : Nat) (t : Nr) (k : Nat) : Prop := ∃ v, Rb w g t v k ∧ Wz.OwnM 2 w v t.S.length (sgs t.S) ∧ ∀ q, v.ownBlock = some q → g < q
/-- what take leaves -/
def TkQ (t : Nr) (k : Nat) (l : ByteArray) (g : Nat) (q : Ending) (w' : World) : Prop := q = .returned (.bool (stp k t l).isSome) ∧ ∃ t', Rs w' g t' k ∧ ∀ t1, stp k t l = some t1 → t' = t1
section
variable {w w' : World} {g k : Nat} {t : Nr} {v : Value}
theorem Rs.below (h : Rs w g t k) (hb : Below w.heap.size w w') : Rs w' g t k := by
  obtain ⟨v, h1, h2, h3⟩ := h
  exact ⟨v, h1.below hb, h2.below hb, h3⟩
theorem Rs.lt (h : Rs w g t k) : g < w.heap.size := by
  obtain ⟨v, h1, _⟩ := h
  exact h1.lt
theorem own_set {g : Nat} {L : List Sg} (j : Nat) (h2 : Wz.OwnM 2 w v L.length (sgs L)) (h3 : ∀ q, v.ownBlock = some q → g < q) (x : Value) : Wz.OwnM 2 (w.setCell ⟨g, j, none⟩ x) v L.length (sgs L) :=
  h2.kept ((But.refl g w).setCell j x).size (fun q hq => ((But.refl g w).setCell j x).block q (h2.lt q hq) (by have := h3 q hq; omega))
end
theorem line_any {w : World} {g : Nat} {t : Nr} {v : Value} {k : Nat} (h : Rb w g t v k) (hk : k ≤ 9223372036854775806) : Calls Tryz.prog 37 #[.pointer (some ⟨g, 0, none⟩)] w fun q w' => q = .returned (.int .i64 ((k + 1 : Nat) : Int)) ∧ w' = w := by
  have c4 := h.c4
  have t1 : IntKind.i64.wrap ((k : Int) + 1) = ((k + 1 : Nat) : Int) := by rw [IntKind.wrap_i64]; omega
  clear h
  go_enter Tryz.func37, Tryz.ntmps37
  go_wp2
  go_ret
  exact ⟨rfl, rfl⟩
set_option maxRecDepth 100000 in
set_option maxHeartbeats 4000000 in
theorem take_0 {w : World} {g : Nat} {t : Nr} (h : Rs w g t 0) (l : ByteArray) : Calls Tryz.prog 58 #[.pointer (some ⟨g, 0, none⟩), .string l] w fun q w' => TkQ t 0 l g q w' ∧ Below g w w' := by
  obtain ⟨v, h1, h2, h3⟩ := h
  have i1 := line_any h1 (by omega)
  have c0 := h1.c0
  have f0 := h1.fz 0
  have i2 := isName_any l (w.setCell ⟨g, 0, none⟩ (.string l))
  have HB := hid (((Below.refl w.heap.size w).mono (Nat.le_of_lt h1.lt)).setCell (p := ⟨g, 0, none⟩) (Nat.le_refl _) (.string l))
  have HR : Hid (Rs (w.setCell ⟨g, 0, none⟩ (.string l)) g ⟨l, t.z, t.R, t.S⟩ 0) := hid ⟨v, h1.set0 l, own_set 0 h2 h3 _, h3⟩
  clear h1 h2 h3
  have HS : Hid ((stp 0 t l).isSome = nmB l.data.toList ∧ ∀ t1, stp 0 t l = some t1 → t1 = ⟨l, t.z, t.R, t.S⟩) := by
    unfold Hid stp
    rw [if_pos rfl]
    cases nmB l.data.toList with
    | true => exact ⟨rfl, fun t1 e => (Option.some.inj e).symm⟩
    | false => exact ⟨rfl, fun t1 e => by cases e⟩
  go_enter Tryz.func58, Tryz.ntmps58
  go_wp2_with (first
    | (go_at_call 37; (refine i1.mono ?_); rintro q w1 ⟨rfl, h0⟩; have h0 := h0.symm; subst h0)
    | (go_at_call 50; (refine i2.mono ?_); rintro q w2 ⟨rfl, b2⟩))
  go_ret
  exact ⟨⟨by rw [HS.out.1]; rfl, _, HR.out.below b2, fun t1 e => (HS.out.2 t1 e).symm⟩, HB.out.trans (b2.mono (Nat.le_of_lt HR.out.lt))⟩
set_option maxRecDepth 100000 in
set_option maxHeartbeats 4000000 in
theorem take_1 {E : Es} {w : World} (hN : Nw w E) {g : Nat} {t : Nr} (h : Rs w g t 1) (l : ByteArray) (hl : l.size ≤ 140737488355328) : Calls Tryz.prog 58 #[.pointer (some ⟨g, 0, none⟩), .string l] w fun q w' => TkQ t 1 l g q w' ∧ Below g w w' := by
  obtain ⟨v, h1, h2, h3⟩ := h
  have i1 := line_any h1 (by omega)
  have i2 := sizeOf_any hN l hl
  have HL := hid h1.lt
  have HC := hid (fun (w' : World) (b : Below w.heap.size w w') => (h1.below b).c1)
  have HF := hid (fun (w' : World) (b : Below w.heap.size w w') => (h1.below b).fz 1)
  have HR : Hid (∀ (w' : World) (z : Int), Below w.heap.size w w' → Rs (w'.setCell ⟨g, 1, none⟩ (.int .i64 z)) g ⟨t.O, z, t.R, t.S⟩ 1) := hid (fun w' z b => ⟨v, (h1.below b).set1 z, own_set 1 (h2.below b) h3 _, h3⟩)
  clear h1 h2 h3 hN
  have HS : Hid (∀ z b, SzP l z b → (stp 1 t l).isSome = b ∧ ∀ t1, stp 1 t l = some t1 → t1 = ⟨t.O, z, t.R, t.S⟩) := by
    intro z b hz
    unfold stp
    rw [if_neg (by decide), if_pos rfl]
    rcases hz.of with ⟨e, rfl⟩ | ⟨e, rfl⟩
    · rw [e]; exact ⟨rfl, fun t1 e => (Option.some.inj e).symm⟩
    · rw [e]; exact ⟨rfl, fun t1 e => by cases e⟩
  go_enter Tryz.func58, Tryz.ntmps58
  go_wp2_with (first
    | (go_at_call 37; (refine i1.mono ?_); rintro q w1 ⟨rfl, h0⟩; have h0 := h0.symm; subst h0)
    | (go_at_call 80; (refine i2.mono ?_); rintro q w2 ⟨⟨z, b, rfl, hz⟩, b2⟩; have hz := hid hz; have B2 := hid b2; have c1 := HC.out w2 b2; have f1 := HF.out w2 b2; clear b2))
  go_ret
  have hs := HS.out z b hz.out
  exact ⟨⟨by rw [hs.1]; rfl, _, HR.out w2 z B2.out, fun t1 e => (hs.2 t1 e).symm⟩, (B2.out.mono (Nat.le_of_lt HL.out)).setCell (p := ⟨g, 1, none⟩) (Nat.le_refl _) _⟩
set_option maxRecDepth 100000 in
set_option maxHeartbeats 4000000 in
theorem take_2 {w : World} {g : Nat} {t : Nr} (h : Rs w g t 2) (l : ByteArray) (hl : l.size ≤ 140737488355328) : Calls Tryz.prog 58 #[.pointer (some ⟨g, 0, none⟩), .string l] w fun q w' => TkQ t 2 l g q w' ∧ Below g w w' := by
  obtain ⟨v, h1, h2, h3⟩ := h
  have i1 := line_any h1 (by omega)
  have i2 := fromBase64_any l hl w
  have HL := hid h1.lt
  have HC := hid (fun (w' : World) (b : Below w.heap.size w w') => (h1.below b).c2)
  have HF := hid (fun (w' : World) (b : Below w.heap.size w w') => (h1.below b).fz 2)
  have HR : Hid (∀ (w' : World) (x : ByteArray), Below w.heap.size w w' → Rs (w'.setCell ⟨g, 2, none⟩ (.string x)) g ⟨t.O, t.z, x, t.S⟩ 2) := hid (fun w' z b => ⟨v, (h1.below b).set2 z, own_set 2 (h2.below b) h3 _, h3⟩)
  clear h1 h2 h3
  have HS : Hid (stp 2 t l = if (Tx.fromB64 l.data.toList).2 = 0 ∧ (Tx.fromB64 l.data.toList).1.length = 32 then some ⟨t.O, t.z, ⟨(Tx.fromB64 l.data.toList).1.toArray⟩, t.S⟩ else none) := rfl
  unfold sv at i2
  generalize Tx.fromB64 l.data.toList = D at *
  obtain ⟨D1, D2⟩ := D
  simp only at i2 HS
  have e32 : (⟨D1.toArray⟩ : ByteArray).size = D1.length := sv_size D1
  have HB := hid (fun (w2 : World) (b : Below w.heap.size w w2) => (b.mono (Nat.le_of_lt HL.out)).setCell (p := ⟨g, 2, none⟩) (Nat.le_refl _) (.string ⟨D1.toArray⟩))
  by_cases hz : D2 = 0
  · subst hz
    by_cases hn : D1.length = 32
    · have hn' : ((⟨D1.toArray⟩ : ByteArray).size : Int) = 32 := by rw [e32]; omega
      have hn2 : (D1.length : Int) = 32 := by omega
      have HT := hid (HS.out.trans (if_pos ⟨rfl, hn⟩))
      clear HS
      clear hn e32
      go_enter Tryz.func58, Tryz.ntmps58
      go_wp2_with (first
        | (go_at_call 37; (refine i1.mono ?_); rintro q w1 ⟨rfl, h0⟩; have h0 := h0.symm; subst h0)
        | (go_at_call 81; (refine i2.mono ?_); rintro q w2 ⟨rfl, b2⟩; have B2 := hid b2; have c1 := HC.out w2 b2; have f1 := HF.out w2 b2; clear b2))
      go_ret
      exact ⟨⟨by rw [HT.out]; rfl, _, HR.out w2 _ B2.out, fun t1 e => by rw [HT.out] at e; exact Option.some.inj e⟩, HB.out w2 B2.out⟩
    · have hn' : ¬ ((⟨D1.toArray⟩ : ByteArray).size : Int) = 32 := by rw [e32]; omega
      have hn2 : ((D1.length : Int) == 32) = false := by rw [beq_eq_false_iff_ne]; omega
      have HT := hid (HS.out.trans (if_neg fun e => hn e.2))
      clear HS
      clear hn e32
      go_enter Tryz.func58, Tryz.ntmps58
      go_wp2_with (first
        | (go_at_call 37; (refine i1.mono ?_); rintro q w1 ⟨rfl, h0⟩; have h0 := h0.symm; subst h0)
        | (go_at_call 81; (refine i2.mono ?_); rintro q w2 ⟨rfl, b2⟩; have B2 := hid b2; have c1 := HC.out w2 b2; have f1 := HF.out w2 b2; clear b2))
      go_ret
      exact ⟨⟨by rw [HT.out]; rfl, _, HR.out w2 _ B2.out, fun t1 e => by rw [HT.out] at e; cases e⟩, HB.out w2 B2.out⟩
  · have HT := hid (HS.out.trans (if_neg fun e => hz e.1))
    clear HS
    go_enter Tryz.func58, Tryz.ntmps58
    go_wp2_with (first
      | (go_at_call 37; (refine i1.mono ?_); rintro q w1 ⟨rfl, h0⟩; have h0 := h0.symm; subst h0)
      | (go_at_call 81; (refine i2.mono ?_); rintro q w2 ⟨rfl, b2⟩; have B2 := hid b2; have c1 := HC.out w2 b2; have f1 := HF.out w2 b2; clear b2))
    go_ret
    exact ⟨⟨by rw [HT.out]; rfl, _, HR.out w2 _ B2.out, fun t1 e => by rw [HT.out] at e; cases e⟩, HB.out w2 B2.out⟩
set_option maxRecDepth 100000 in
set_option maxHeartbeats 4000000 in
theorem take_3 {w : World} {g : Nat} {t : Nr} (h : Rs w g t 3) (l : ByteArray) : Calls Tryz.prog 58 #[.pointer (some ⟨g, 0, none⟩), .string l] w fun q w' => TkQ t 3 l g q w' ∧ Below g w w' := by
  have HR := hid h
  obtain ⟨v, h1, h2, h3⟩ := h
  have i1 := line_any h1 (by omega)
  clear h1 h2 h3
  have e0 : (⟨#[]⟩ : ByteArray).toList = [] := by simp [ByteArray.toList_eq]
  by_cases hz : l.size = 0
  · have HS : Hid (stp 3 t l = some t) := by unfold Hid stp; rw [if_neg (by decide), if_neg (by decide), if_neg (by decide), if_pos rfl, if_pos hz]
    obtain rfl : l = ⟨#[]⟩ := by
      apply Go.WideShapes.bytes_inj
      have := dlen l
      rw [hz] at this
      rw [List.length_eq_zero_iff.1 this]
    clear hz
    go_enter Tryz.func58, Tryz.ntmps58
    go_wp2_with (first
      | (go_at_call 37; (refine i1.mono ?_); rintro q w1 ⟨rfl, h0⟩; have h0 := h0.symm; subst h0))
    go_ret
    exact ⟨⟨by rw [HS.out]; rfl, _, HR.out, fun t1 e => by rw [HS.out] at e; exact Option.some.inj e⟩, Below.refl _ _⟩
  · have HS : Hid (stp 3 t l = none) := by unfold Hid stp; rw [if_neg (by decide), if_neg (by decide), if_neg (by decide), if_pos rfl, if_neg hz]
    have hb := ba_ne (a := l) (b := ⟨#[]⟩) (fun e => hz (by rw [e]; rfl))
    rw [e0] at hb
    clear hz
    go_enter Tryz.func58, Tryz.ntmps58
    go_wp2_with (first
      | (go_at_call 37; (refine i1.mono ?_); rintro q w1 ⟨rfl, h0⟩; have h0 := h0.symm; subst h0))
    go_ret
    exact ⟨⟨by rw [HS.out]; rfl, _, HR.out, fun t1 e => by rw [HS.out] at e; cases e⟩, Below.refl _ _⟩
end Nt
end Go.Proofs.YtdbbemcddhgbcaaGreatDoor
