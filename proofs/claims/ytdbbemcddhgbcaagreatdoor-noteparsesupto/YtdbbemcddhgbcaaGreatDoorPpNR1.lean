import Derived.Test.YtdbbemcddhgbcaaGreatDoorPpND3
import Derived.Test.YtdbbemcddhgbcaaGreatDoorPpNQ8
/- Layer 22, the law: two notes of one content are the same -/
namespace Go.Proofs.YtdbbemcddhgbcaaGreatDoor
open Go.RowKit Go.Shelf
namespace Nt
set_option maxRecDepth 100000 in
set_option maxHeartbeats 8000000 in
theorem same22_yes (O : ByteArray) (z : Int) (R : ByteArray) (S : List Sg) (n : Nat) (hn : Hid (S.length = n)) (hn2 : n ≤ 8796093022000) (a a' : Option Addr) (c c' : Nat) (w : World) (h : AtS w a S) (h' : AtS w a' S) :
    Calls Tryz.prog 24 #[nv O z R (.slice a n c), nv O z R (.slice a' n c')] w fun e w' => e = .returned (.bool true) ∧ Below w.heap.size w w' := by
  have b1 := (Below.refl w.heap.size w).alloc (Nat.le_refl _) (.cells #[.string O, .int .i64 z, .string R, .slice a n c] 26)
  have x1 := Bx.new w O z R (.slice a n c)
  have b2 := (Below.refl (w.heap.size + 1) (w.alloc (.cells #[.string O, .int .i64 z, .string R, .slice a n c] 26))).alloc (by rw [size_alloc]; exact Nat.le_refl _) (.cells #[.string O, .int .i64 z, .string R, .slice a' n c'] 26)
  have x2 := Bx.new (w.alloc (.cells #[.string O, .int .i64 z, .string R, .slice a n c] 26)) O z R (.slice a' n c')
  rw [size_alloc] at x2
  have x3 := x1.kept (b2.block w.heap.size (Nat.lt_succ_self _))
  have b3 := b1.trans (b2.mono (Nat.le_succ _))
  obtain ⟨W, hW⟩ : ∃ W, (w.alloc (.cells #[.string O, .int .i64 z, .string R, .slice a n c] 26)).alloc (.cells #[.string O, .int .i64 z, .string R, .slice a' n c'] 26) = W := ⟨_, rfl⟩
  rw [hW] at x2 x3 b3
  have HA := hid (h.below b3)
  have HB := hid (h'.below b3)
  have HW := hid hW
  have X1 := hid x3
  have X2 := hid x2
  have BW := hid b3
  clear h h' b1 x1 b2 x2 x3 b3 hW
  unfold nv
  go_enter Tryz.func24, Tryz.ntmps24
  go_wp2
  rw [HW.out]
  obtain ⟨g, hg⟩ : ∃ g, w.heap.size = g := ⟨_, rfl⟩
  rw [hg] at X1 X2 ⊢
  clear hg
  go_loopw [5] (fun i w' => ∃ j : Nat, j ≤ n ∧ i = .int .i64 (j : Int) ∧ Hid (Below W.heap.size W w' ∧ w'.heap = W.heap)) (fun i _ => n - (intOf i).toNat)
  case atStart => exact ⟨0, by omega, rfl, hid ⟨Below.refl _ _, rfl⟩⟩
  case round =>
    obtain ⟨j, hj, rfl, hB⟩ := hrel
    have x1 := X1.out.below hB.out.1
    have x2 := X2.out.below hB.out.1
    have d1 := x1.c3
    have d2 := x2.c3
    clear x1 x2
    by_cases hjn : j < n
    · have b1 : (j : Int) < (n : Int) := by omega
      have j0 : (0 : Int) ≤ (j : Int) := by omega
      obtain ⟨⟨X, Y⟩, hz⟩ : ∃ z, S[j]? = some z := ⟨_, List.getElem?_eq_getElem (by rw [hn.out]; exact hjn)⟩
      obtain ⟨y, rfl, yb, c0⟩ := HB.out j _ hz
      obtain ⟨x, rfl, xb, c1⟩ := HA.out j _ hz
      rw [← hB.out.1.cell (p := x.add (j * 2)) (by rw [adr_block]; exact xb), ← hB.out.1.cell (p := ⟨(x.add (j * 2)).block, (x.add (j * 2)).off + 1, none⟩) (by show (x.add (j * 2)).block < _; rw [adr_block]; exact xb)] at c1
      rw [← hB.out.1.cell (p := y.add (j * 2)) (by rw [adr_block]; exact yb), ← hB.out.1.cell (p := ⟨(y.add (j * 2)).block, (y.add (j * 2)).off + 1, none⟩) (by show (y.add (j * 2)).block < _; rw [adr_block]; exact yb)] at c0
      obtain ⟨c0, c0'⟩ := c0
      obtain ⟨c1, c1'⟩ := c1
      clear hz xb yb
      go_wp2
      go_quiet (fail)
      go_wp2
      exact ⟨⟨j + 1, by omega, by go_num, hid ⟨bw_drewN hB.out.1 _, hB.out.2⟩⟩, by simp [intOf]; omega⟩
    · have b0 : ¬ (j : Int) < (n : Int) := by omega
      go_wp2
      go_ret
      exact ⟨rfl, BW.out.trans (hB.out.1.mono BW.out.size)⟩
end Nt
end Go.Proofs.YtdbbemcddhgbcaaGreatDoor

/- Layer 22, the law: the book: roles of blocks; what it holds -/
namespace Go.Proofs.YtdbbemcddhgbcaaGreatDoor
open Go.RowKit Go.Shelf
namespace Nt
/-- a list that is its owner's, in blocks of one role -/
structure Rl (ρ : Nat → Nat) (r m : Nat) (w : World) (v : Value) (n : Nat) (cs : List Value) : Prop where
  own : Wz.OwnM m w v n cs
  role : ∀ k, v.ownBlock = some k → ρ k = r
/-- a step that touches blocks of some roles alone -/
structure Stp (T : Nat → Prop) (ρ ρ' : Nat → Nat) (w w' : World) : Prop where
  os : w'.os = w.os
  tape : w'.tape = w.tape
  output : w'.output = w.output
  size : w.heap.size ≤ w'.heap.size
  old : ∀ k, k < w.heap.size → ¬ T (ρ k) → w'.heap[k]? = w.heap[k]?
  ext : ∀ k, k < w.heap.size → ρ' k = ρ k
def extR (ρ : Nat → Nat) (w : World) (r : Nat) : Nat → Nat := fun k => if k < w.heap.size then ρ k else r
theorem extR_old {ρ : Nat → Nat} {w : World} {r k : Nat} (h : k < w.heap.size) : extR ρ w r k = ρ k := if_pos h
theorem extR_new {ρ : Nat → Nat} {w : World} {r k : Nat} (h : w.heap.size ≤ k) : extR ρ w r k = r := if_neg (Nat.not_lt.2 h)
theorem Stp.refl (T : Nat → Prop) (ρ : Nat → Nat) (w : World) : Stp T ρ ρ w w := ⟨rfl, rfl, rfl, Nat.le_refl _, fun _ _ _ => rfl, fun _ _ => rfl⟩
theorem Stp.trans {T : Nat → Prop} {ρ ρ1 ρ2 : Nat → Nat} {w w1 w2 : World} (h : Stp T ρ ρ1 w w1) (k : Stp T ρ1 ρ2 w1 w2) : Stp T ρ ρ2 w w2 :=
  ⟨k.os.trans h.os, k.tape.trans h.tape, k.output.trans h.output, Nat.le_trans h.size k.size, fun i hi hn => (k.old i (Nat.lt_of_lt_of_le hi h.size) (by rw [h.ext i hi]; exact hn)).trans (h.old i hi hn), fun i hi => (k.ext i (Nat.lt_of_lt_of_le hi h.size)).trans (h.ext i hi)⟩
theorem Stp.weak {T T' : Nat → Prop} {ρ ρ1 : Nat → Nat} {w w1 : World} (h : Stp T ρ ρ1 w w1) (hT : ∀ r, T r → T' r) : Stp T' ρ ρ1 w w1 := ⟨h.os, h.tape, h.output, h.size, fun i hi hn => h.old i hi fun e => hn (hT _ e), h.ext⟩
theorem Stp.below {w w' : World} (b : Below w.heap.size w w') (T : Nat → Prop) (ρ : Nat → Nat) (r : Nat) : Stp T ρ (extR ρ w r) w w' := ⟨b.os, b.tape, b.output, b.size, fun k hk _ => b.block k hk, fun _ hk => extR_old hk⟩
theorem Stp.grow {T : Nat → Prop} {ρ : Nat → Nat} {w w' : World} {v v' : Value} {r : Nat} (g : Wz.Grow w w' v v') (hv : ∀ k, v.ownBlock = some k → ρ k = r) (hT : T r) : Stp T ρ (extR ρ w r) w w' :=
  ⟨g.os, g.tape, g.output, g.size, fun k hk hn => g.old k hk fun e => hn (by rw [hv k e]; exact hT), fun _ hk => extR_old hk⟩
theorem Stp.but {T : Nat → Prop} {ρ : Nat → Nat} {w w' : World} {g : Nat} (b : But g w w') (hT : T (ρ g)) : Stp T ρ ρ w w' := ⟨b.os, b.tape, b.output, b.size, fun k hk hn => b.block k hk fun e => hn (by rw [e]; exact hT), fun _ _ => rfl⟩
section
variable {T : Nat → Prop} {ρ ρ' : Nat → Nat} {w w' : World} {r m n : Nat} {v : Value} {cs : List Value}
theorem Rl.step (h : Rl ρ r m w v n cs) (s : Stp T ρ ρ' w w') (hr : ¬ T r) : Rl ρ' r m w' v n cs :=
  ⟨h.own.kept s.size fun k hk => s.old k (h.own.lt k hk) (by rw [h.role k hk]; exact hr), fun k hk => (s.ext k (h.own.lt k hk)).trans (h.role k hk)⟩
theorem Rl.nil (ρ : Nat → Nat) (r m : Nat) (w : World) : Rl ρ r m w (.slice none 0 0) 0 [] := ⟨.inl ⟨rfl, rfl, rfl⟩, fun k hk => by cases hk⟩
theorem Rl.grown {v' : Value} {n' : Nat} {cs' : List Value} (h : Rl ρ r m w v n cs) (g : Wz.Grow w w' v v') (o : Wz.OwnM m w' v' n' cs') : Rl (extR ρ w r) r m w' v' n' cs' := ⟨o, fun k hk => by
  rcases g.alt with e | ⟨e, _⟩
  · have hk2 : v.ownBlock = some k := by rw [← e]; exact hk
    rw [extR_old (h.own.lt k hk2)]; exact h.role k hk2
  · exact extR_new (e k hk)⟩
theorem Rl.made (o : Wz.OwnM m w' v n cs) (hB : ∀ k, v.ownBlock = some k → w.heap.size ≤ k) : Rl (extR ρ w r) r m w' v n cs := ⟨o, fun k hk => extR_new (hB k hk)⟩
end
/-- an entry: what must be; the program's list; the document's -/
abbrev En := Nr × Value × Value
def ncs (E : List En) : List Value := E.flatMap fun e => [.string e.1.O, .int .i64 e.1.z, .string e.1.R, e.2.1]
def wcs (E : List En) : List Value := E.flatMap fun e => [.string e.1.O, .int .i64 e.1.z, .string e.1.R, e.2.2]
theorem ncs_one (E : List En) (t : Nr) (v u : Value) : ncs E ++ [.string t.O, .int .i64 t.z, .string t.R, v] = ncs (E ++ [(t, v, u)]) := by unfold ncs; rw [List.flatMap_append]; rfl
theorem wcs_one (E : List En) (t : Nr) (v u : Value) : wcs E ++ [.string t.O, .int .i64 t.z, .string t.R, u] = wcs (E ++ [(t, v, u)]) := by unfold wcs; rw [List.flatMap_append]; rfl
def Kx (w : World) (gb : Nat) (nV wV lV : Value) : Prop := w.heap[gb]? = some (.cells #[nV, wV, lV] 38 (0, 0))
section
variable {w w' : World} {gb : Nat} {nV wV lV : Value}
theorem Kx.c0 (h : Kx w gb nV wV lV) : w.cell? ⟨gb, 0, none⟩ = some nV := by rw [cell_of_row w gb 0 _ _ _ h]; rfl
theorem Kx.c1 (h : Kx w gb nV wV lV) : w.cell? ⟨gb, 1, none⟩ = some wV := by rw [cell_of_row w gb 1 _ _ _ h]; rfl
theorem Kx.c2 (h : Kx w gb nV wV lV) : w.cell? ⟨gb, 2, none⟩ = some lV := by rw [cell_of_row w gb 2 _ _ _ h]; rfl
theorem Kx.kept (h : Kx w gb nV wV lV) (e : w'.heap[gb]? = w.heap[gb]?) : Kx w' gb nV wV lV := e.trans h
theorem Kx.set0 (h : Kx w gb nV wV lV) (v : Value) : Kx (w.setCell ⟨gb, 0, none⟩ v) gb v wV lV := by
  have e := setCell_eq_setRow w gb 0 _ 38 (0, 0) v h
  unfold Kx
  rw [e]
  exact setRow_heap _ _ _ _ _ _ h
theorem Kx.set1 (h : Kx w gb nV wV lV) (v : Value) : Kx (w.setCell ⟨gb, 1, none⟩ v) gb nV v lV := by
  have e := setCell_eq_setRow w gb 1 _ 38 (0, 0) v h
  unfold Kx
  rw [e]
  exact setRow_heap _ _ _ _ _ _ h
theorem Kx.set2 (h : Kx w gb nV wV lV) (v : Value) : Kx (w.setCell ⟨gb, 2, none⟩ v) gb nV wV v := by
  have e := setCell_eq_setRow w gb 2 _ 38 (0, 0) v h
  unfold Kx
  rw [e]
  exact setRow_heap _ _ _ _ _ _ h
end
/-- the book. Roles: 0 itself, 1 and 2 its lists of notes, 3 the document's signatures, 4 the list of lists, 5 + i the i-th note's; 1000000: not the book's -/
structure Bk (ρ : Nat → Nat) (w : World) (gb : Nat) (E : List En) (nV wV lV : Value) : Prop where
  c : Kx w gb nV wV lV
  r : ρ gb = 0
  ln : Rl ρ 1 4 w nV E.length (ncs E)
  lw : Rl ρ 2 4 w wV E.length (wcs E)
  lv : ∀ (i : Nat) (e : En), E[i]? = some e → Rl ρ (5 + i) 2 w e.2.1 e.1.S.length (sgs e.1.S)
  lu : ∀ (i : Nat) (e : En), E[i]? = some e → Rl ρ 3 2 w e.2.2 e.1.S.length (sgs e.1.S)
  sz : ∀ e ∈ E, e.1.S.length ≤ 16
  few : E.length ≤ 100
theorem Bk.step {T : Nat → Prop} {ρ ρ' : Nat → Nat} {w w' : World} {gb : Nat} {E : List En} {nV wV lV : Value} (h : Bk ρ w gb E nV wV lV) (s : Stp T ρ ρ' w w') (hT : ∀ r, T r → 5 + E.length ≤ r) : Bk ρ' w' gb E nV wV lV := by
  have no : ∀ r, r < 5 + E.length → ¬ T r := fun r hr e => by have := hT r e; omega
  have hl := lt_of_heap h.c
  exact ⟨h.c.kept (s.old gb hl (by rw [h.r]; exact no 0 (by omega))), (s.ext gb hl).trans h.r, h.ln.step s (no 1 (by omega)), h.lw.step s (no 2 (by omega)), fun i e he => (h.lv i e he).step s (no _ (by have := (List.getElem?_eq_some_iff.1 he).1; omega)), fun i e he => (h.lu i e he).step s (no 3 (by omega)), h.sz, h.few⟩
theorem infoNt : (Tryz.prog.info? 26).map (fun i => (i.zero, i.size, i.bytes)) = some (some (.agg #[.string ⟨#[]⟩, .int .i64 0, .string ⟨#[]⟩, .slice none 0 0]), 4, 64) := by kernel_rfl
theorem append_nt (w : World) (v : Value) (k : Nat) (cs : List Value) (O R : ByteArray) (z : Int) (a : Option Addr) (n c : Nat) (hown : Wz.OwnM 4 w v k cs) (hb : k ≤ 1000) :
    ∃ v' w', (Builtin.append_ #[35, 35] 35 #[v, .slice (some ⟨w.heap.size, 0, none⟩) 1 1]).run Tryz.prog (w.alloc (.cells #[.string O, .int .i64 z, .string R, .slice a n c] 26)) = .ok v' w' ∧ Wz.OwnM 4 w' v' (k + 1) (cs ++ [.string O, .int .i64 z, .string R, .slice a n c]) ∧ Wz.Grow w w' v v' :=
  Wz.append_oneL 35 26 (.agg #[.string ⟨#[]⟩, .int .i64 0, .string ⟨#[]⟩, .slice none 0 0]) 64 Tryz.underlying35 infoNt rfl w v k cs [.string O, .int .i64 z, .string R, .slice a n c] rfl (fun u hu => by
    simp only [List.mem_cons, List.not_mem_nil, or_false] at hu
    rcases hu with rfl | rfl | rfl | rfl <;> rfl) hown (by omega) (by rw [maxLen]; omega)
end Nt
end Go.Proofs.YtdbbemcddhgbcaaGreatDoor

/- Layer 22, the law: the book holds a note more -/
namespace Go.Proofs.YtdbbemcddhgbcaaGreatDoor
open Go.RowKit Go.Shelf
namespace Nt
theorem size_setCell22 (w : World) (p : Addr) (v : Value) : (w.setCell p v).heap.size = w.heap.size := by simp [World.setCell]
theorem push22 {ρ : Nat → Nat} {w : World} {gb : Nat} {E : List En} {nV wV lV : Value} (h : Bk ρ w gb E nV wV lV) (t : Nr) (n : Nat) (hn : t.S.length = n) (hn16 : n ≤ 16) (hE : E.length < 100) (a a' : Option Addr) (c c' : Nat) (hv : Rl ρ (5 + E.length) 2 w (.slice a n c) n (sgs t.S)) (hu : Rl ρ 3 2 w (.slice a' n c') n (sgs t.S))
    (W1 : World) (hW1 : (w.alloc (.cells #[.string t.O, .int .i64 t.z, .string t.R, .slice a n c] 26)).alloc (.cells #[.string t.O, .int .i64 t.z, .string t.R, .slice a' n c'] 26) = W1) :
    ∃ nV' w3 wV' w5 ρ', (Builtin.append_ #[35, 35] 35 #[nV, .slice (some ⟨W1.drew.heap.size, 0, none⟩) 1 1]).run Tryz.prog (W1.drew.alloc (.cells #[.string t.O, .int .i64 t.z, .string t.R, .slice a n c] 26)) = .ok nV' w3 ∧
      (Builtin.append_ #[35, 35] 35 #[wV, .slice (some ⟨w3.heap.size, 0, none⟩) 1 1]).run Tryz.prog ((w3.setCell ⟨gb, 0, none⟩ nV').drew.alloc (.cells #[.string t.O, .int .i64 t.z, .string t.R, .slice a' n c'] 26)) = .ok wV' w5 ∧
      Kx W1.drew gb nV wV lV ∧ Kx w3 gb nV wV lV ∧ Bx W1.drew w.heap.size t.O t.z t.R (.slice a n c) ∧ Kx (w3.setCell ⟨gb, 0, none⟩ nV').drew gb nV' wV lV ∧ Bx (w3.setCell ⟨gb, 0, none⟩ nV').drew (w.heap.size + 1) t.O t.z t.R (.slice a' n c') ∧ Kx w5 gb nV' wV lV ∧
      (Bx w3 w.heap.size t.O t.z t.R (.slice a n c) ∧ Bx (w3.setCell ⟨gb, 0, none⟩ nV').drew w.heap.size t.O t.z t.R (.slice a n c) ∧ Bx w5 (w.heap.size + 1) t.O t.z t.R (.slice a' n c') ∧ Bx (w5.setCell ⟨gb, 1, none⟩ wV') (w.heap.size + 1) t.O t.z t.R (.slice a' n c')) ∧
      Bk ρ' (w5.setCell ⟨gb, 1, none⟩ wV') gb (E ++ [(t, .slice a n c, .slice a' n c')]) nV' wV' lV ∧ Stp (fun r => r < 3) ρ ρ' w (w5.setCell ⟨gb, 1, none⟩ wV') := by
  have b1 := (Below.refl w.heap.size w).alloc (Nat.le_refl _) (.cells #[.string t.O, .int .i64 t.z, .string t.R, .slice a n c] 26)
  have x1 := Bx.new w t.O t.z t.R (.slice a n c)
  have b2 := (Below.refl (w.heap.size + 1) (w.alloc (.cells #[.string t.O, .int .i64 t.z, .string t.R, .slice a n c] 26))).alloc (by rw [size_alloc]; exact Nat.le_refl _) (.cells #[.string t.O, .int .i64 t.z, .string t.R, .slice a' n c'] 26)
  have x2 := Bx.new (w.alloc (.cells #[.string t.O, .int .i64 t.z, .string t.R, .slice a n c] 26)) t.O t.z t.R (.slice a' n c')
  rw [size_alloc] at x2
  have x3 := x1.kept (b2.block w.heap.size (Nat.lt_succ_self _))
  have b3 := b1.trans (b2.mono (Nat.le_succ _))
  rw [hW1] at x2 x3 b3
  obtain ⟨W2, hW2⟩ : ∃ W2, W1.drew = W2 := ⟨_, rfl⟩
  rw [hW2]
  replace x2 : Bx W2 (w.heap.size + 1) t.O t.z t.R (.slice a' n c') := by rw [← hW2]; exact x2
  replace x3 : Bx W2 w.heap.size t.O t.z t.R (.slice a n c) := by rw [← hW2]; exact x3
  replace b3 : Below w.heap.size w W2 := by rw [← hW2]; exact bw_drewN b3 1
  have hl := lt_of_heap h.c
  have hl1 := lt_of_heap x3
  have hl2 := lt_of_heap x2
  clear b1 b2 x1 hW2
  have s1 : Stp (fun _ => False) ρ (extR ρ w 1000001) w W2 := Stp.below b3 _ _ _
  obtain ⟨ρ1, e1⟩ : ∃ ρ1, extR ρ w 1000001 = ρ1 := ⟨_, rfl⟩
  have rg1 : ρ1 w.heap.size = 1000001 := by rw [← e1]; exact extR_new (Nat.le_refl _)
  have rg2 : ρ1 (w.heap.size + 1) = 1000001 := by rw [← e1]; exact extR_new (Nat.le_succ _)
  rw [e1] at s1
  clear e1
  have h1 := h.step s1 (fun _ e => e.elim)
  have hv1 := hv.step s1 (fun e => e)
  have hu1 := hu.step s1 (fun e => e)
  obtain ⟨nV', w3, r1, o1, g1⟩ := append_nt W2 nV E.length (ncs E) t.O t.R t.z a n c h1.ln.own (by omega)
  have s2 : Stp (fun r => r = 1) ρ1 (extR ρ1 W2 1) W2 w3 := Stp.grow g1 h1.ln.role rfl
  have n2 := h1.ln.grown g1 o1
  rw [ncs_one] at n2
  have y2 := x2.kept (s2.old _ hl2 (by rw [rg2]; decide))
  have q2 := s2.ext _ hl2
  rw [rg2] at q2
  have z2 := x3.kept (s2.old _ hl1 (by rw [rg1]; decide))
  have p2 := s2.ext _ hl1
  rw [rg1] at p2
  obtain ⟨ρ2, e2⟩ : ∃ ρ2, extR ρ1 W2 1 = ρ2 := ⟨_, rfl⟩
  rw [e2] at s2 n2 q2 p2
  clear e2
  have hlb := lt_of_heap h1.c
  have k3 := h1.c.kept (s2.old gb hlb (by rw [h1.r]; decide))
  have r3 : ρ2 gb = 0 := (s2.ext gb hlb).trans h1.r
  have w3' := h1.lw.step s2 (by decide)
  have v3 := fun i e he => (h1.lv i e he).step s2 (show ¬ (5 + i = 1) by omega)
  have u3 := fun i e he => (h1.lu i e he).step s2 (show ¬ (3 = 1) by decide)
  have hv3 := hv1.step s2 (show ¬ (5 + E.length = 1) by omega)
  have hu3 := hu1.step s2 (show ¬ (3 = 1) by decide)
  have hl4 := lt_of_heap y2
  have s3 : Stp (fun r => r = 0) ρ2 ρ2 w3 (w3.setCell ⟨gb, 0, none⟩ nV') := Stp.but ((But.refl gb w3).setCell _ _) r3
  have k4 := k3.set0 nV'
  have hsz : (w3.setCell ⟨gb, 0, none⟩ nV').drew.heap.size = w3.heap.size := size_setCell22 w3 ⟨gb, 0, none⟩ nV'
  replace s3 : Stp (fun r => r = 0) ρ2 ρ2 w3 (w3.setCell ⟨gb, 0, none⟩ nV').drew := ⟨s3.os, s3.tape, s3.output, s3.size, s3.old, s3.ext⟩
  replace k4 : Kx (w3.setCell ⟨gb, 0, none⟩ nV').drew gb nV' wV lV := k4
  obtain ⟨w4, hw4⟩ : ∃ w4, (w3.setCell ⟨gb, 0, none⟩ nV').drew = w4 := ⟨_, rfl⟩
  rw [hw4] at s3 k4 hsz
  have y4 := y2.kept (s3.old _ hl4 (by rw [q2]; decide))
  have z4 := z2.kept (s3.old _ (lt_of_heap z2) (by rw [p2]; decide))
  have n4 := n2.step s3 (by decide)
  have w4' := w3'.step s3 (by decide)
  have v4 := fun i e he => (v3 i e he).step s3 (show ¬ (5 + i = 0) by omega)
  have u4 := fun i e he => (u3 i e he).step s3 (show ¬ (3 = 0) by decide)
  have hv4 := hv3.step s3 (show ¬ (5 + E.length = 0) by omega)
  have hu4 := hu3.step s3 (show ¬ (3 = 0) by decide)
  obtain ⟨wV', w5, r5, o5, g5⟩ := append_nt w4 wV E.length (wcs E) t.O t.R t.z a' n c' w4'.own (by omega)
  have s4 : Stp (fun r => r = 2) ρ2 (extR ρ2 w4 2) w4 w5 := Stp.grow g5 w4'.role rfl
  have w5' := w4'.grown g5 o5
  rw [wcs_one] at w5'
  obtain ⟨ρ3, e3⟩ : ∃ ρ3, extR ρ2 w4 2 = ρ3 := ⟨_, rfl⟩
  rw [e3] at s4 w5'
  clear e3
  have hl5 := lt_of_heap k4
  have k5 := k4.kept (s4.old gb hl5 (by rw [r3]; decide))
  have r5' : ρ3 gb = 0 := (s4.ext gb hl5).trans r3
  have y5 := y4.kept (s4.old _ (lt_of_heap y4) (by rw [q2]; decide))
  have q5 := (s4.ext _ (lt_of_heap y4)).trans q2
  have n5 := n4.step s4 (by decide)
  have v5 := fun i e he => (v4 i e he).step s4 (show ¬ (5 + i = 2) by omega)
  have u5 := fun i e he => (u4 i e he).step s4 (show ¬ (3 = 2) by decide)
  have hv5 := hv4.step s4 (show ¬ (5 + E.length = 2) by omega)
  have hu5 := hu4.step s4 (show ¬ (3 = 2) by decide)
  have s5 : Stp (fun r => r = 0) ρ3 ρ3 w5 (w5.setCell ⟨gb, 1, none⟩ wV') := Stp.but ((But.refl gb w5).setCell _ _) r5'
  have y6 := y5.kept (s5.old _ (lt_of_heap y5) (by rw [q5]; decide))
  refine ⟨nV', w3, wV', w5, ρ3, r1, ?_, h1.c, k3, x3, ?_, ?_, k5, ⟨z2, ?_, y5, y6⟩, ⟨k5.set1 wV', r5', ?_, ?_, fun i e he => ?_, fun i e he => ?_, fun e he => ?_, ?_⟩, ?_⟩
  · rw [hw4, ← hsz]; exact r5
  · rw [hw4]; exact k4
  · rw [hw4]; exact y4
  · rw [hw4]; exact z4
  · rw [List.length_append]; exact n5.step s5 (by decide)
  · rw [List.length_append]; exact w5'.step s5 (by decide)
  · by_cases hi : i < E.length
    · rw [List.getElem?_append_left hi] at he
      exact (v5 i e he).step s5 (show ¬ (5 + i = 0) by omega)
    · have hi2 := (List.getElem?_eq_some_iff.1 he).1
      rw [List.length_append, List.length_singleton] at hi2
      obtain rfl : i = E.length := by omega
      rw [List.getElem?_append_right (Nat.le_refl _), Nat.sub_self] at he
      obtain rfl := Option.some.inj he
      rw [hn]
      exact hv5.step s5 (show ¬ (5 + E.length = 0) by omega)
  · by_cases hi : i < E.length
    · rw [List.getElem?_append_left hi] at he
      exact (u5 i e he).step s5 (show ¬ (3 = 0) by decide)
    · have hi2 := (List.getElem?_eq_some_iff.1 he).1
      rw [List.length_append, List.length_singleton] at hi2
      obtain rfl : i = E.length := by omega
      rw [List.getElem?_append_right (Nat.le_refl _), Nat.sub_self] at he
      obtain rfl := Option.some.inj he
      rw [hn]
      exact hu5.step s5 (show ¬ (3 = 0) by decide)
  · rcases List.mem_append.1 he with he | he
    · exact h.sz e he
    · obtain rfl := List.mem_singleton.1 he
      rw [hn]; exact hn16
  · rw [List.length_append, List.length_singleton]; omega
  · exact (((((s1.weak fun _ e => e.elim).trans (s2.weak fun r e => by omega)).trans (s3.weak fun r e => by omega)).trans (s4.weak fun r e => by omega)).trans (s5.weak fun r e => by omega))
end Nt
end Go.Proofs.YtdbbemcddhgbcaaGreatDoor
