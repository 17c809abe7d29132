import Derived.Test.YtdbbemcddhgbcaaGreatDoorPpNC4
import Derived.Test.YtdbbemcddhgbcaaGreatDoorPpWDG
import Derived.Test.YtdbbemcddhgbcaaGreatDoorPpR5
import Derived.Laws.ResultCell
/- Layer 22, the law: rows of signatures -/
namespace Go.Proofs.YtdbbemcddhgbcaaGreatDoor
open Go.RowKit Go.Shelf
namespace Nt
/-- copy, where an element has m cells -/
theorem run_copy_row22 {P : Program} (w : World) (dT sT ty elem : TypeId) (m g dLen dCap : Nat) (a : Addr) (sLen sCap : Nat) (cur : Array Value) (t : TypeId) (cs : List Value)
    (hu : P.underlying dT = some (.slice elem)) (hs : (P.info? elem).map (·.size) = some m)
    (hg : w.heap[g]? = some (.cells cur t (0, 0))) (hle : sLen ≤ dLen) (hn : cs.length = sLen * m)
    (hsrc : ∀ j v, cs[j]? = some v → w.cell? (a.add j) = some v) (hfit : cs.length ≤ cur.size) (h1 : ∀ v ∈ cs, v.oneCell' = true) :
    (Builtin.copy_ #[dT, sT] ty #[.slice (some ⟨g, 0, none⟩) dLen dCap, .slice (some a) sLen sCap]).run P w =
      .ok (goInt sLen) (w.setRow g (cs ++ cur.toList.drop cs.length).toArray) := by
  have hl := run_loadCells_list (P := P) w a cs hsrc
  have hst := run_storeCells_at P g 0 t cs 0 cur w hg (by simpa using hfit) h1
  have hmin : Nat.min sLen dLen = sLen := Nat.min_eq_left hle
  cases hq : P.info? elem with
  | none => simp [hq] at hs
  | some i =>
    have hi : i.size = m := by simpa [hq] using hs
    simp [Builtin.copy_, run_underlying hu, Builtin.lenOf, Builtin.firstCells, sizeOf, typeInfo, hq, hi, hmin, ← hn, hl, hst]
/-- signatures as cells -/
def sgs (l : List Sg) : List Value := l.flatMap fun q => [.string q.1, .string q.2]
theorem sgs_cons (q : Sg) (l : List Sg) : sgs (q :: l) = [.string q.1, .string q.2] ++ sgs l := rfl
theorem sgs_len (l : List Sg) : (sgs l).length = l.length * 2 := by
  induction l with
  | nil => rfl
  | cons q l ih => rw [sgs_cons, List.length_append, ih]; simp; omega
theorem sgs_app (l m : List Sg) : sgs (l ++ m) = sgs l ++ sgs m := List.flatMap_append
theorem sgs_get : ∀ {l : List Sg} {j : Nat} {q : Sg}, l[j]? = some q → (sgs l)[j * 2]? = some (.string q.1) ∧ (sgs l)[j * 2 + 1]? = some (.string q.2)
  | x :: l, 0, q, h => by
    obtain rfl : x = q := by simpa using h
    exact ⟨rfl, rfl⟩
  | x :: l, j + 1, q, h => by
    have := sgs_get (l := l) (j := j) (q := q) (by simpa using h)
    rw [sgs_cons, show (j + 1) * 2 = j * 2 + 1 + 1 by omega]
    exact ⟨this.1, by simpa using this.2⟩
theorem sgs_one {l : List Sg} {v : Value} (h : v ∈ sgs l) : v.oneCell' = true := by
  unfold sgs at h
  rw [List.mem_flatMap] at h
  obtain ⟨q, _, h⟩ := h
  simp only [List.mem_cons, List.not_mem_nil, or_false] at h
  rcases h with rfl | rfl <;> rfl
theorem sgs_rep (c : Nat) : sgs (List.replicate c (⟨#[]⟩, ⟨#[]⟩)) = List.replicate (c * 2) (.string ⟨#[]⟩) := by
  induction c with
  | zero => rfl
  | succ c ih =>
    rw [List.replicate_succ, sgs_cons, ih, show (c + 1) * 2 = c * 2 + 1 + 1 by omega, List.replicate_succ, List.replicate_succ]
    rfl
theorem sgs_set : ∀ (l : List Sg) (j : Nat) (x y : ByteArray), sgs (l.set j (x, y)) = ((sgs l).set (j * 2) (.string x)).set (j * 2 + 1) (.string y)
  | [], j, x, y => by simp [sgs]
  | q :: l, 0, x, y => by rw [List.set_cons_zero, sgs_cons, sgs_cons]; rfl
  | q :: l, j + 1, x, y => by
    rw [List.set_cons_succ, sgs_cons, sgs_cons, sgs_set l j x y, show (j + 1) * 2 = j * 2 + 1 + 1 by omega]
    rfl
/-- the cells one behind the other -/
def AtF (w : World) (a : Option Addr) (S : List Sg) : Prop := ∀ j v, (sgs S)[j]? = some v → ∃ p : Addr, a = some p ∧ p.block < w.heap.size ∧ w.cell? (p.add j) = some v
theorem AtF.below {w w' : World} {a : Option Addr} {S : List Sg} (h : AtF w a S) (hb : Below w.heap.size w w') : AtF w' a S := fun j x hx => by
  obtain ⟨p, e, h1, h2⟩ := h j x hx
  exact ⟨p, e, Nat.lt_of_lt_of_le h1 hb.size, (hb.cell (p := p.add j) (by rw [adr_block]; exact h1)).trans h2⟩
/-- a row of signatures -/
def RowG (w : World) (H : Nat) (l : List Sg) : Prop := w.heap[H]? = some (.cells (sgs l).toArray 32 (0, 0))
section
variable {w w' : World} {H : Nat} {l : List Sg}
theorem RowG.lt (h : RowG w H l) : H < w.heap.size := lt_of_heap h
theorem RowG.below (h : RowG w H l) (hb : Below w.heap.size w w') : RowG w' H l := (hb.block H h.lt).trans h
theorem RowG.cell (h : RowG w H l) {j : Nat} {q : Sg} (hq : l[j]? = some q) : w.cell? ⟨H, j * 2, none⟩ = some (.string q.1) ∧ w.cell? ⟨H, j * 2 + 1, none⟩ = some (.string q.2) := by
  rw [cell_of_row _ _ _ _ _ _ h, cell_of_row _ _ _ _ _ _ h]
  exact ⟨by simpa using (sgs_get hq).1, by simpa using (sgs_get hq).2⟩
theorem RowG.at (h : RowG w H l) : AtS w (some ⟨H, 0, none⟩) l := fun j q hq => by
  refine ⟨⟨H, 0, none⟩, rfl, h.lt, ?_, ?_⟩
  · rw [Addr.add_mid, Nat.zero_add]; exact (h.cell hq).1
  · rw [Addr.add_mid]; simp only [Nat.zero_add]; exact (h.cell hq).2
theorem RowG.atF (h : RowG w H l) : AtF w (some ⟨H, 0, none⟩) l := fun j v hv => by
  refine ⟨⟨H, 0, none⟩, rfl, h.lt, ?_⟩
  rw [Addr.add_mid, Nat.zero_add, cell_of_row _ _ _ _ _ _ h]
  simpa using hv
end
theorem AtS.take {w : World} {a : Option Addr} {l : List Sg} (h : AtS w a l) (k : Nat) : AtS w a (l.take k) := fun j q hq => h j q (by
  rw [List.getElem?_take] at hq
  split at hq
  · exact hq
  · cases hq)
theorem AtF.take {w : World} {a : Option Addr} {l : List Sg} (h : AtF w a l) (k : Nat) : AtF w a (l.take k) := fun j v hv => h j v (by
  have hj : j < (l.take k).length * 2 := by rw [← sgs_len]; exact (List.getElem?_eq_some_iff.1 hv).1
  have e : sgs l = sgs (l.take k) ++ sgs (l.drop k) := by rw [← sgs_app, List.take_append_drop]
  rw [e, List.getElem?_append_left (by rw [sgs_len]; exact hj)]
  exact hv)
theorem infoSg : (Tryz.prog.info? 32).map (fun i => (i.zero, i.size, i.bytes)) = some (some (.agg #[.string ⟨#[]⟩, .string ⟨#[]⟩]), 2, 32) := by kernel_rfl
theorem infoSg2 : (Tryz.prog.info? 32).map (·.size) = some 2 := by kernel_rfl
theorem toList_madeCells_22 (z : Value) (n : Nat) : (madeCells #[z, z] n).toList = List.replicate n z := by
  apply List.ext_getElem?
  intro j
  by_cases hj : j < n
  · have : j % 2 = 0 ∨ j % 2 = 1 := by omega
    rcases this with h | h <;> simp [madeCells, hj, h]
  · simp [madeCells, hj]
set_option maxRecDepth 100000 in
/-- make([]api.Signature, c) -/
theorem make_sgs (w : World) (c : Nat) (hc : c ≤ 8796093022200) :
    (Instr.makeSlice 24 (.int .i64 (c : Int)) (.int .i64 (c : Int))).run Tryz.prog w = .ok (.slice (some ⟨w.heap.size, 0, none⟩) c c) (w.alloc (.cells (sgs (List.replicate c (⟨#[]⟩, ⟨#[]⟩))).toArray 32)) := by
  obtain ⟨i0, hi, hz0, hz1, hz2⟩ := info_parts infoSg
  have h := run_make (P := Tryz.prog) w 24 32 i0 (.agg #[.string ⟨#[]⟩, .string ⟨#[]⟩]) Tryz.underlying24 hi hz0 .i64 .i64 (c : Int) (c : Int) (by omega) (by omega) (by rw [hz2]; omega) (by omega)
  rw [Int.toNat_natCast, hz1] at h
  have e : madeCells (Value.agg #[.string ⟨#[]⟩, .string ⟨#[]⟩]).cells (c * 2) = (sgs (List.replicate c (⟨#[]⟩, ⟨#[]⟩))).toArray := by
    apply Array.ext'
    rw [show (madeCells (Value.agg #[.string ⟨#[]⟩, .string ⟨#[]⟩]).cells (c * 2)).toList = List.replicate (c * 2) (.string ⟨#[]⟩) from toList_madeCells_22 _ _, sgs_rep]
  rw [e] at h
  exact h
set_option maxRecDepth 100000 in
/-- copy(all, l) -/
theorem copy_sgs (w : World) (H : Nat) (a : Option Addr) (cap' : Nat) (ps rest : List Sg) (hs : AtF w a ps) (hR : RowG w H (List.replicate ps.length (⟨#[]⟩, ⟨#[]⟩) ++ rest)) (m cap : Nat) (hm : m = ps.length + rest.length) (hp : 0 < ps.length) :
    ∃ w', (Builtin.copy_ #[24, 24] 3 #[.slice (some ⟨H, 0, none⟩) m cap, .slice a ps.length cap']).run Tryz.prog w = .ok (goInt ps.length) w' ∧ RowG w' H (ps ++ rest) ∧ But H w w' := by
  obtain ⟨g, rfl, hg, _⟩ := hs 0 _ (List.getElem?_eq_getElem (by rw [sgs_len]; omega))
  have h := run_copy_row22 (P := Tryz.prog) w 24 24 3 32 2 H m cap g ps.length cap' _ 32 (sgs ps) Tryz.underlying24 infoSg2 hR (by omega) (sgs_len ps)
    (fun j u hu => by
      obtain ⟨g', e, _, h1⟩ := hs j u hu
      obtain rfl := Option.some.inj e
      exact h1) (by simp [sgs_len]; omega) (fun u hu => sgs_one hu)
  refine ⟨_, h, ?_, (But.refl _ _).setRow _⟩
  unfold RowG
  rw [setRow_heap _ _ _ _ _ _ hR]
  refine congrArg (fun A => some (Obj.cells A 32 (0, 0))) ?_
  refine congrArg List.toArray ?_
  rw [sgs_app, sgs_app, List.toList_toArray, sgs_len, List.drop_append_of_le_length (by rw [sgs_len, List.length_replicate]; exact Nat.le_refl _), List.drop_eq_nil_of_le (by rw [sgs_len, List.length_replicate]; exact Nat.le_refl _), List.nil_append]
end Nt
end Go.Proofs.YtdbbemcddhgbcaaGreatDoor

/- Layer 22, the law: a note that is lent -/
namespace Go.Proofs.YtdbbemcddhgbcaaGreatDoor
open Go.RowKit Go.Shelf
theorem results_row_tmp22 {P : Program} {fn : Func} {p u : Tmp} {ty : TypeId} (h : fn.results = #[.cell p ty, .tmp u]) (tmps : Array Value) (w : World) (g : Nat) (t : TypeId) (cs : Array Value) (fr : Nat × Nat) (d : TypeDesc)
    (hp : tmps.getD p undef = .pointer (some ⟨g, 0, none⟩)) (hg : w.heap[g]? = some (.cells cs t fr))
    (hu : P.underlying ty = some d) (hd : (match d with | .struct _ | .array _ _ => true | _ => false) = true) (hi : (P.info? ty).map (·.size) = some cs.size) :
    (results fn tmps).run P w = .ok (.tuple #[.agg cs, tmps.getD u undef]) w := by
  rw [results_cell_tmp h, hp]
  simp [asAddr, run_loadVar_row w g t ty cs fr d hg hu hd hi, Result.andThen]
namespace Nt
section
variable {w : World} {H : Nat} {l : List Sg}
theorem RowG.set0 (h : RowG w H l) {k : Nat} {x y : ByteArray} (hk : l[k]? = some (x, y)) (z : ByteArray) : RowG (w.setCell ⟨H, k * 2, none⟩ (.string z)) H (l.set k (z, y)) := by
  have e := setCell_eq_setRow w H (k * 2) (sgs l).toArray 32 (0, 0) (.string z) h
  unfold RowG
  rw [e, setRow_heap _ _ _ _ _ _ h]
  congr 2
  rw [sgs_set]
  have h2 := (sgs_get hk).2
  have : ((sgs l).set (k * 2) (.string z)).set (k * 2 + 1) (.string y) = (sgs l).set (k * 2) (.string z) := by
    apply List.ext_getElem?
    intro j
    by_cases hj : j = k * 2 + 1
    · subst hj
      rw [List.getElem?_set, List.getElem?_set_ne (by omega), h2]
      have hlt := (List.getElem?_eq_some_iff.1 h2).1
      simp [hlt]
    · rw [List.getElem?_set_ne (fun e => hj e.symm)]
  rw [this]
  simp
theorem RowG.set1 (h : RowG w H l) {k : Nat} {x y : ByteArray} (hk : l[k]? = some (x, y)) (z : ByteArray) : RowG (w.setCell ⟨H, k * 2 + 1, none⟩ (.string z)) H (l.set k (x, z)) := by
  have e := setCell_eq_setRow w H (k * 2 + 1) (sgs l).toArray 32 (0, 0) (.string z) h
  unfold RowG
  rw [e, setRow_heap _ _ _ _ _ _ h]
  congr 2
  rw [sgs_set]
  have h2 := (sgs_get hk).1
  have : (sgs l).set (k * 2) (.string x) = sgs l := by
    apply List.ext_getElem?
    intro j
    by_cases hj : j = k * 2
    · subst hj
      rw [List.getElem?_set, h2]
      have hlt := (List.getElem?_eq_some_iff.1 h2).1
      simp [hlt]
    · rw [List.getElem?_set_ne (fun e => hj e.symm)]
  rw [this]
  simp
theorem RowG.free (h : RowG w H l) {j : Nat} (_ : j < l.length * 2) : w.frozen? ⟨H, j, none⟩ = false := frozen_of_row _ _ _ _ _ h
end
/-- what stands behind -/
def bhd : Sg := (⟨#[98, 101, 104, 105, 110, 100]⟩, ⟨#[]⟩)
def beh (j : Nat) : List Sg := List.replicate j bhd ++ List.replicate (8 - j) (⟨#[]⟩, ⟨#[]⟩)
theorem beh_len (j : Nat) (h : j ≤ 8) : (beh j).length = 8 := by unfold beh; rw [List.length_append, List.length_replicate, List.length_replicate]; omega
theorem beh_at (S : List Sg) (j : Nat) (h : j < 8) : (S ++ beh j)[S.length + j]? = some (⟨#[]⟩, ⟨#[]⟩) := by
  rw [List.getElem?_append_right (by omega), Nat.add_sub_cancel_left]
  unfold beh
  rw [List.getElem?_append_right (by rw [List.length_replicate]; exact Nat.le_refl _), List.length_replicate, Nat.sub_self, List.getElem?_replicate]
  simp; omega
theorem beh_step (S : List Sg) (j : Nat) (h : j < 8) : (S ++ beh j).set (S.length + j) bhd = S ++ beh (j + 1) := by
  rw [List.set_append_right _ _ (by omega), Nat.add_sub_cancel_left]
  congr 1
  unfold beh
  rw [List.set_append_right _ _ (by rw [List.length_replicate]; exact Nat.le_refl _), List.length_replicate, Nat.sub_self, show 8 - j = (8 - (j + 1)) + 1 by omega, List.replicate_succ, List.set_cons_zero, List.replicate_succ' (n := j), List.append_assoc]
  rfl
theorem copy_sgs' (w : World) (H : Nat) (a : Option Addr) (cap' : Nat) (ps rest : List Sg) (hs : AtF w a ps) (hR : RowG w H (List.replicate ps.length (⟨#[]⟩, ⟨#[]⟩) ++ rest)) (m cap : Nat) (hm : m = ps.length + rest.length) :
    ∃ w', (Builtin.copy_ #[24, 24] 3 #[.slice (some ⟨H, 0, none⟩) m cap, .slice a ps.length cap']).run Tryz.prog w = .ok (goInt ps.length) w' ∧ RowG w' H (ps ++ rest) ∧ But H w w' := by
  by_cases hp : 0 < ps.length
  · exact copy_sgs w H a cap' ps rest hs hR m cap hm hp
  · obtain rfl : ps = [] := List.length_eq_zero_iff.1 (by omega)
    refine ⟨w, ?_, by simpa using hR, But.refl _ _⟩
    cases hq : Tryz.prog.info? 32 with
    | none => have := infoSg2; simp [hq] at this
    | some i =>
      cases a with
      | none => simp [Builtin.copy_, run_underlying Tryz.underlying24, Builtin.lenOf, Builtin.firstCells, sizeOf, typeInfo, hq, storeCells]
      | some b =>
        have hl := run_loadCells_list (P := Tryz.prog) w b [] (fun j v h => by simp at h)
        simp only [List.length_nil] at hl
        simp [Builtin.copy_, run_underlying Tryz.underlying24, Builtin.lenOf, Builtin.firstCells, sizeOf, typeInfo, hq, hl, storeCells]
theorem sizeNt22 (a b c d : Value) : (Tryz.prog.info? 26).map (·.size) = some #[a, b, c, d].size := by
  show _ = some 4
  kernel_rfl
theorem oneNt22 (O R : ByteArray) (z : Int) (a : Option Addr) (n c : Nat) : (#[Value.string O, .int .i64 z, .string R, Value.slice a n c].all (·.oneCell')) = true := all_oneCell_toArray (cs := [Value.string O, .int .i64 z, .string R, Value.slice a n c]) fun v hv => by
  simp only [List.mem_cons, List.not_mem_nil, or_false] at hv
  rcases hv with rfl | rfl | rfl | rfl <;> rfl
set_option maxRecDepth 100000 in
set_option maxHeartbeats 8000000 in
theorem lent22_any (O R : ByteArray) (z : Int) (S : List Sg) (n : Nat) (hn : Hid (S.length = n)) (hn2 : n ≤ 8796093022000) (a : Option Addr) (c : Nat) (w : World) (hF : AtF w a S) : Calls Tryz.prog 18 #[nv O z R (.slice a n c)] w fun q w' => ∃ H, q = .returned (.tuple #[nv O z R (.slice (some ⟨H, 0, none⟩) n (n + 8)), .slice (some ⟨H, 0, none⟩) (n + 8) (n + 8)]) ∧ RowG w' H (S ++ beh 8) ∧ w.heap.size ≤ H ∧ Below w.heap.size w w' := by
  have b0 := (Below.refl w.heap.size w).alloc (Nat.le_refl _) (.cells #[.string O, .int .i64 z, .string R, .slice a n c] 26)
  have S0 := Bx.new w O z R (.slice a n c)
  have b1 := (Below.refl _ (w.alloc (.cells #[.string O, .int .i64 z, .string R, .slice a n c] 26))).alloc (Nat.le_refl _) (.cells #[.string ⟨#[]⟩, .int .i64 0, .string ⟨#[]⟩, .slice none 0 0] 26)
  have S1 := Bx.new (w.alloc (.cells #[.string O, .int .i64 z, .string R, .slice a n c] 26)) ⟨#[]⟩ 0 ⟨#[]⟩ (.slice none 0 0)
  have S0 := S0.below b1
  have hF := (hF.below b0).below b1
  have B1 := b0.trans (b1.mono b0.size)
  have z1 : ((w.alloc (.cells #[.string O, .int .i64 z, .string R, .slice a n c] 26)).alloc (.cells #[.string ⟨#[]⟩, .int .i64 0, .string ⟨#[]⟩, .slice none 0 0] 26)).heap.size = w.heap.size + 2 := by rw [size_alloc, size_alloc]
  rw [size_alloc] at S1
  clear b0 b1
  have HF := hid hF
  have HB := hid B1
  have H0 := hid S0
  have H1 := hid S1
  have HZ := hid z1
  clear hF B1 S0 S1 z1
  unfold nv at *
  go_enter Tryz.func18, Tryz.ntmps18
  go_upto_region 1 with fail
  obtain ⟨W, hW⟩ : ∃ W, (w.alloc (.cells #[.string O, .int .i64 z, .string R, .slice a n c] 26)).alloc (.cells #[.string ⟨#[]⟩, .int .i64 0, .string ⟨#[]⟩, .slice none 0 0] 26) = W := ⟨_, rfl⟩
  unfold Hid at HF HB H0 H1 HZ
  rw [hW] at HF HB H0 H1 HZ ⊢
  clear hW
  obtain ⟨g, hg⟩ : ∃ g, w.heap.size = g := ⟨_, rfl⟩
  rw [hg] at H0 H1 HB HZ ⊢
  have hmk := make_sgs W (n + 8) (by omega)
  have e8 : ((n + 8 : Nat) : Int) = (n : Int) + 8 := by omega
  rw [e8] at hmk
  have R1 : RowG (W.alloc (.cells (sgs (List.replicate (n + 8) (⟨#[]⟩, ⟨#[]⟩))).toArray 32)) W.heap.size (List.replicate S.length (⟨#[]⟩, ⟨#[]⟩) ++ List.replicate 8 (⟨#[]⟩, ⟨#[]⟩)) := by
    rw [List.replicate_append_replicate, hn.out]; exact heap_alloc_new W _
  have hb1 := (Below.refl W.heap.size W).alloc (Nat.le_refl _) (.cells (sgs (List.replicate (n + 8) (⟨#[]⟩, ⟨#[]⟩))).toArray 32)
  obtain ⟨w2, hcp, hR2, hb2⟩ := copy_sgs' _ W.heap.size a c S (List.replicate 8 (⟨#[]⟩, ⟨#[]⟩)) (HF.below hb1) R1 (n + 8) (n + 8) (by rw [hn.out]; simp)
  rw [hn.out] at hcp
  have B2 : Below W.heap.size W w2 := hb1.trans (hb2.below (Nat.le_refl _) (by rw [size_alloc]; omega))
  have q3 := (H0.below hb1).c3
  have HR2 := hid hR2
  have HB2 := hid B2
  have HB := hid HB
  have H0 := hid H0
  have H1 := hid H1
  have HG := hid hg
  clear hR2 B2 R1 hb2 hb1 HF hg
  generalize W.alloc (.cells (sgs (List.replicate (n + 8) (⟨#[]⟩, ⟨#[]⟩))).toArray 32) = w1 at *
  have p3 := H0.out.c3
  obtain ⟨G, hG⟩ : ∃ G, W.heap.size = G := ⟨_, rfl⟩
  rw [hG] at hmk hcp HZ
  have HGG := hid hG
  unfold Hid at HR2 HB2
  rw [hG] at HR2 HB2
  have HR2 := hid HR2
  have HB2 := hid HB2
  have HZH := hid HZ
  clear hG HZ
  go_wp2
  clear hcp hmk q3 p3 e8
  go_loopw [6] (fun i w' => ∃ j : Nat, j ≤ 8 ∧ i = .int .i64 ((n : Int) + (j : Int)) ∧ Hid (RowG w' G (S ++ beh j)) ∧ Hid (Below G W w')) (fun i _ => n + 8 - (intOf i).toNat)
  case atStart => exact ⟨0, by omega, by simp, HR2, HB2⟩
  case round =>
    clear HR2 HB2
    obtain ⟨j, hj, rfl, hR, hB⟩ := hrel
    by_cases hlt : j < 8
    · have b0 : (n : Int) + (j : Int) < (n : Int) + 8 := by omega
      have b1 : (0 : Int) ≤ (n : Int) + (j : Int) := by omega
      have t1 : ((n : Int) + (j : Int)).toNat = n + j := by omega
      have at0 := beh_at S j hlt
      have st0 := beh_step S j hlt
      rw [hn.out] at at0 st0
      have cp := (hR.out.cell at0).1
      have fz := hR.out.free (j := (n + j) * 2) (by rw [List.length_append, hn.out, beh_len j (by omega)]; omega)
      have R' := hR.out.set0 at0 ⟨#[98, 101, 104, 105, 110, 100]⟩
      unfold bhd at st0
      rw [st0] at R'
      have B' := hid (hB.out.setCell (p := ⟨G, (n + j) * 2, none⟩) (Nat.le_refl _) (.string ⟨#[98, 101, 104, 105, 110, 100]⟩))
      have R'' := hid R'
      clear R' hR hB at0 st0
      go_wp2
      exact ⟨⟨j + 1, by omega, by rw [show (n : Int) + (j : Int) + 1 = (n : Int) + ((j + 1 : Nat) : Int) from by omega], R'', B'⟩, by simp [intOf]; omega⟩
    · obtain rfl : j = 8 := by omega
      have b0 : ¬ (n : Int) + ((8 : Nat) : Int) < (n : Int) + 8 := by omega
      have hG := HGG.out
      have hZ := HZH.out
      have y0 : Bx wr g O z R (.slice a n c) := (hB.out.block g (by omega)).trans H0.out
      have y1 : Bx wr (g + 1) ⟨#[]⟩ 0 ⟨#[]⟩ (.slice none 0 0) := (hB.out.block (g + 1) (by omega)).trans H1.out
      have f3 : wr.frozen? ⟨g, 3, none⟩ = false := frozen_of_row _ _ _ _ _ y0
      have c3 := y0.c3
      have E := setCell_eq_setRow wr g 3 _ 26 (0, 0) (.slice (some ⟨G, 0, none⟩) n (n + 8)) y0
      have y2 : Bx (wr.setCell ⟨g, 3, none⟩ (.slice (some ⟨G, 0, none⟩) n (n + 8))) g O z R (.slice (some ⟨G, 0, none⟩) n (n + 8)) := by
        rw [E]; exact setRow_heap _ _ _ _ _ _ y0
      have y3 : Bx (wr.setCell ⟨g, 3, none⟩ (.slice (some ⟨G, 0, none⟩) n (n + 8))) (g + 1) ⟨#[]⟩ 0 ⟨#[]⟩ (.slice none 0 0) := by
        rw [E]; exact (setRow_other _ _ _ _ (by omega)).trans y1
      have y4 : RowG (wr.setCell ⟨g, 3, none⟩ (.slice (some ⟨G, 0, none⟩) n (n + 8))) G (S ++ beh 8) := by
        rw [E]; exact (setRow_other _ _ _ _ (by omega)).trans hR.out
      have y5 : Below g w (wr.setCell ⟨g, 3, none⟩ (.slice (some ⟨G, 0, none⟩) n (n + 8))) := by
        rw [E]; exact Below.setRow (HB.out.trans (hB.out.mono (by omega))) (Nat.le_refl _) _
      clear E
      have Y0 := hid y0
      have Y1 := hid y1
      have Y2 := hid y2
      have Y3 := hid y3
      have Y4 := hid y4
      have Y5 := hid y5
      have HG2 := hid (show g ≤ G by omega)
      clear y0 y1 y2 y3 y4 y5 hG hZ hR hB
      go_wp2_with (first
        | ((with_reducible show wpList _ _ _ (Oper.mk _ (Op.load 26 _) _ _ _ _ :: _) _ _); go_must (refine wpList_load_row rfl 26 _ rfl g rfl 26 _ (0, 0) _ Y2.out Tryz.underlying26 rfl (sizeNt22 _ _ _ _) ?_))
        | ((with_reducible show wpList _ _ _ (Oper.mk _ (Op.store 26 _ _) _ _ _ _ :: _) _ _); go_must (refine wpList_store_row rfl 26 _ _ rfl (g + 1) _ rfl rfl 26 _ Y3.out (sizeNt22 _ _ _ _) rfl (oneNt22 _ _ _ _ _ _) ?_)))
      have hg := HG.out
      have hG := HGG.out
      have hZ := HZH.out
      refine bodyPost_ret (results_row_tmp22 rfl _ _ (g + 1) 26 _ (0, 0) _ rfl (setRow_heap _ _ _ _ _ _ Y3.out) Tryz.underlying26 rfl (sizeNt22 _ _ _ _)) rfl ⟨G, rfl, (setRow_other _ _ _ _ (by omega)).trans Y4.out, by omega, ?_⟩
      rw [hg]
      exact Below.setRow Y5.out (by omega) _
end Nt
end Go.Proofs.YtdbbemcddhgbcaaGreatDoor
