import Derived.Test.YtdmaiodckialmaaDoorCSP28
import Derived.Test.YtdmaiodckialmaaDoorCSF3
import Derived.Test.YtdmaiodckialmaaDoorCSQ11
namespace Go.Proofs.YtdmaiodckialmaaDoor
open Go.RowKit Go.Shelf
/-- copy, where an element has m cells -/
theorem run_copy_rowM {P : Program} (w : World) (dT sT ty elem : TypeId) (m g dLen dCap : Nat) (a : Addr) (sLen sCap : Nat) (cur : Array Value) (t : TypeId) (cs : List Value)
    (hu : P.underlying dT = some (.slice elem)) (hs : (P.info? elem).map (·.size) = some m)
    (hg : w.heap[g]? = some (.cells cur t (0, 0))) (hle : sLen ≤ dLen) (hn : cs.length = sLen * m)
    (hsrc : ∀ j v, cs[j]? = some v → w.cell? (a.add j) = some v) (hfit : cs.length ≤ cur.size) (h1 : ∀ v ∈ cs, v.oneCell' = true) :
    (Builtin.copy_ #[dT, sT] ty #[.slice (some ⟨g, 0, none⟩) dLen dCap, .slice (some a) sLen sCap]).run P w =
      .ok (goInt sLen) (w.setRow g (cs ++ cur.toList.drop cs.length).toArray) := by
  have hl := run_loadCells_list (P := P) w a cs hsrc
  have hst := run_storeCells_at P g 0 t cs 0 cur w hg (by simpa using hfit) h1
  have hmin : Nat.min sLen dLen = sLen := Nat.min_eq_left hle
  cases hq : P.info? elem with
  | none => simp [hq] at hs
  | some i =>
    have hi : i.size = m := by simpa [hq] using hs
    simp [Builtin.copy_, run_underlying hu, Builtin.lenOf, Builtin.firstCells, sizeOf, typeInfo, hq, hi, hmin, ← hn, hl, hst]
/-- a row of spans -/
def RowP (w : World) (H : Nat) (l : List (Int × Int)) : Prop := w.heap[H]? = some (.cells (prI l).toArray 25 (0, 0))
theorem RowP.lt {w : World} {H : Nat} {l : List (Int × Int)} (h : RowP w H l) : H < w.heap.size := lt_of_heap h
theorem RowP.below {w w' : World} {H B : Nat} {l : List (Int × Int)} (h : RowP w H l) (hb : Below B w w') (hB : H < B) : RowP w' H l := (hb.block H hB).trans h
theorem RowP.cell {w : World} {H : Nat} {l : List (Int × Int)} (h : RowP w H l) {j : Nat} {q : Int × Int} (hq : l[j]? = some q) : w.cell? ⟨H, j * 2, none⟩ = some (.int .i64 q.1) ∧ w.cell? ⟨H, j * 2 + 1, none⟩ = some (.int .i64 q.2) := by
  rw [cell_of_row _ _ _ _ _ _ h, cell_of_row _ _ _ _ _ _ h]
  exact ⟨by simpa using (prI_get hq).1, by simpa using (prI_get hq).2⟩
theorem RowP.at {w : World} {H : Nat} {l : List (Int × Int)} (h : RowP w H l) : AtP w (some ⟨H, 0, none⟩) l := fun _ _ hq => ⟨H, rfl, h.lt, (h.cell hq).1, (h.cell hq).2⟩
theorem AtP.take {w : World} {a : Option Addr} {l : List (Int × Int)} (h : AtP w a l) (k : Nat) : AtP w a (l.take k) := fun j q hq => h j q (by
  rw [List.getElem?_take] at hq
  split at hq
  · exact hq
  · cases hq)
theorem prI_len8 (l : List (Int × Int)) : (prI l).length = l.length * 2 := by
  induction l with
  | nil => rfl
  | cons q l ih =>
    have : prI (q :: l) = [.int .i64 q.1, .int .i64 q.2] ++ prI l := rfl
    rw [this, List.length_append, ih]; simp; omega
theorem prI_app (l m : List (Int × Int)) : prI (l ++ m) = prI l ++ prI m := by
  induction l with
  | nil => rfl
  | cons q l ih =>
    have e1 : prI (q :: l ++ m) = [.int .i64 q.1, .int .i64 q.2] ++ prI (l ++ m) := rfl
    have e2 : prI (q :: l) = [.int .i64 q.1, .int .i64 q.2] ++ prI l := rfl
    rw [e1, e2, ih, List.append_assoc]
theorem prI_rep (c : Nat) : prI (List.replicate c (0, 0)) = List.replicate (c * 2) (.int .i64 0) := by
  induction c with
  | zero => rfl
  | succ c ih =>
    rw [List.replicate_succ]
    have e : prI ((0, 0) :: List.replicate c (0, 0)) = [.int .i64 0, .int .i64 0] ++ prI (List.replicate c (0, 0)) := rfl
    rw [e, ih, show (c + 1) * 2 = c * 2 + 1 + 1 by omega, List.replicate_succ, List.replicate_succ]
    rfl
theorem prI_one8 {l : List (Int × Int)} {v : Value} (h : v ∈ prI l) : v.oneCell' = true := by
  induction l with
  | nil => cases h
  | cons q l ih =>
    have e : prI (q :: l) = [.int .i64 q.1, .int .i64 q.2] ++ prI l := rfl
    rw [e] at h
    rcases List.mem_append.1 h with h | h
    · simp only [List.mem_cons, List.not_mem_nil, or_false] at h
      rcases h with rfl | rfl <;> rfl
    · exact ih h
theorem toList_madeCells_two (z : Value) (n : Nat) : (madeCells #[z, z] n).toList = List.replicate n z := by
  apply List.ext_getElem?
  intro j
  by_cases hj : j < n
  · have : j % 2 = 0 ∨ j % 2 = 1 := by omega
    rcases this with h | h <;> simp [madeCells, hj, h]
  · simp [madeCells, hj]
/-- make([]api.Span, c) -/
theorem make_spans8 (w : World) (c : Nat) (hc : c ≤ 8796093022000) :
    (Instr.makeSlice 22 (.int .i64 (c : Int)) (.int .i64 (c : Int))).run Tryd.prog w = .ok (.slice (some ⟨w.heap.size, 0, none⟩) c c) (w.alloc (.cells (prI (List.replicate c (0, 0))).toArray 25)) := by
  obtain ⟨i0, hi, hz0, hz1, hz2⟩ := info_parts infoSp8
  have h := run_make (P := Tryd.prog) w 22 25 i0 (.agg #[.int .i64 0, .int .i64 0]) Tryd.underlying22 hi hz0 .i64 .i64 (c : Int) (c : Int) (by omega) (by omega) (by rw [hz2]; omega) (by omega)
  rw [Int.toNat_natCast, hz1] at h
  have e : madeCells (Value.agg #[.int .i64 0, .int .i64 0]).cells (c * 2) = (prI (List.replicate c (0, 0))).toArray := by
    apply Array.ext'
    rw [show (madeCells (Value.agg #[.int .i64 0, .int .i64 0]).cells (c * 2)).toList = List.replicate (c * 2) (.int .i64 0) from toList_madeCells_two _ _, prI_rep]
  rw [e] at h
  exact h
theorem infoSp1 : (Tryd.prog.info? 25).map (·.size) = some 2 := by kernel_rfl
/-- copy(all, l) -/
theorem copy_spans8 (w : World) (H : Nat) (a : Option Addr) (cap' : Nat) (ps rest : List (Int × Int)) (hs : AtQ w a ps) (hR : RowP w H (List.replicate ps.length (0, 0) ++ rest)) (m cap : Nat) (hm : m = ps.length + rest.length) (hp : 0 < ps.length) :
    ∃ w', (Builtin.copy_ #[22, 22] 3 #[.slice (some ⟨H, 0, none⟩) m cap, .slice a ps.length cap']).run Tryd.prog w = .ok (goInt ps.length) w' ∧ RowP w' H (ps ++ rest) ∧ But H w w' := by
  obtain ⟨g, rfl, hg, _, _⟩ := hs 0 _ (List.getElem?_eq_getElem hp)
  have h := run_copy_rowM (P := Tryd.prog) w 22 22 3 25 2 H m cap g ps.length cap' _ 25 (prI ps) Tryd.underlying22 infoSp1 hR (by omega) (prI_len8 ps)
    (fun j u hu => by
      have hj := (List.getElem?_eq_some_iff.1 hu).1
      rw [prI_len8] at hj
      obtain ⟨q, hq⟩ : ∃ q, ps[j / 2]? = some q := ⟨_, List.getElem?_eq_getElem (by omega)⟩
      obtain ⟨g', e, _, h1, h2⟩ := hs (j / 2) q hq
      obtain rfl : g = g' := by injection e
      obtain ⟨k1, k2⟩ := prI_get hq
      have : j % 2 = 0 ∨ j % 2 = 1 := by omega
      rcases this with h | h
      · rw [show j / 2 * 2 = j by omega] at h1 k1
        rw [hu] at k1
        rw [h1]; exact k1.symm
      · rw [show j / 2 * 2 + 1 = j by omega] at h2 k2
        rw [hu] at k2
        rw [h2]; exact k2.symm) (by simp [prI_len8]; omega) (fun u hu => prI_one8 hu)
  refine ⟨_, h, ?_, (But.refl _ _).setRow _⟩
  unfold RowP
  rw [setRow_heap _ _ _ _ _ _ hR]
  refine congrArg (fun A => some (Obj.cells A 25 (0, 0))) ?_
  refine congrArg List.toArray ?_
  rw [prI_app, prI_app, List.toList_toArray, prI_len8, List.drop_append_of_le_length (by rw [prI_len8, List.length_replicate]; exact Nat.le_refl _), List.drop_eq_nil_of_le (by rw [prI_len8, List.length_replicate]; exact Nat.le_refl _), List.nil_append]
end Go.Proofs.YtdmaiodckialmaaDoor

namespace Go.Proofs.YtdmaiodckialmaaDoor
open Go.RowKit Go.Shelf
/-- behind the spans -/
def s77 (j : Nat) : List (Int × Int) := List.replicate j (77, 0) ++ List.replicate (8 - j) (0, 0)
theorem s77_len (j : Nat) (h : j ≤ 8) : (s77 j).length = 8 := by simp [s77]; omega
theorem s77_at (j : Nat) (h : j < 8) : (s77 j)[j]? = some (0, 0) := by
  unfold s77
  rw [List.getElem?_append_right (by simp), List.length_replicate, Nat.sub_self, List.getElem?_replicate, if_pos (by omega)]
theorem s77_set (j : Nat) (h : j < 8) : (s77 j).set j (77, 0) = s77 (j + 1) := by
  unfold s77
  rw [List.set_append_right _ _ (by simp), List.length_replicate, Nat.sub_self, show 8 - j = 8 - (j + 1) + 1 by omega, List.replicate_succ, List.set_cons_zero, show j + 1 = j.succ from rfl, List.replicate_succ', List.append_assoc]
  rfl
theorem s77_all : s77 8 = List.replicate 8 (77, 0) := by simp [s77]
def bhd : List UInt8 := [98, 101, 104, 105, 110, 100]
theorem bhd_sv : sv bhd = .string ⟨#[98, 101, 104, 105, 110, 100]⟩ := rfl
def bh (j : Nat) : List (List UInt8) := List.replicate j bhd ++ List.replicate (8 - j) []
theorem bh_len (j : Nat) (h : j ≤ 8) : (bh j).length = 8 := by simp [bh]; omega
theorem bh_set (j : Nat) (h : j < 8) : (bh j).set j bhd = bh (j + 1) := by
  unfold bh
  rw [List.set_append_right _ _ (by simp), List.length_replicate, Nat.sub_self, show 8 - j = 8 - (j + 1) + 1 by omega, List.replicate_succ, List.set_cons_zero, show j + 1 = j.succ from rfl, List.replicate_succ', List.append_assoc]
  rfl
theorem bh_all : bh 8 = List.replicate 8 bhd := by simp [bh]
theorem prI_set0 : ∀ (l : List (Int × Int)) (k : Nat) (x y z : Int), l[k]? = some (x, y) → (prI l).set (k * 2) (.int .i64 z) = prI (l.set k (z, y))
  | [], k, x, y, z, h => by cases h
  | q :: l, 0, x, y, z, h => by
    obtain rfl : q = (x, y) := Option.some.inj h
    rfl
  | q :: l, k + 1, x, y, z, h => by
    have ih := prI_set0 l k x y z h
    have e1 : prI (q :: l) = .int .i64 q.1 :: .int .i64 q.2 :: prI l := rfl
    have e2 : prI ((q :: l).set (k + 1) (z, y)) = .int .i64 q.1 :: .int .i64 q.2 :: prI (l.set k (z, y)) := rfl
    rw [e1, e2, show (k + 1) * 2 = k * 2 + 1 + 1 by omega, List.set_cons_succ, List.set_cons_succ, ih]
theorem RowP.set0 {w : World} {H : Nat} {l : List (Int × Int)} (h : RowP w H l) {k : Nat} {x y : Int} (hk : l[k]? = some (x, y)) (z : Int) : RowP (w.setCell ⟨H, k * 2, none⟩ (.int .i64 z)) H (l.set k (z, y)) := by
  have e := setCell_eq_setRow w H (k * 2) (prI l).toArray 25 (0, 0) (.int .i64 z) h
  unfold RowP
  rw [e, setRow_heap _ _ _ _ _ _ h]
  refine congrArg (fun A => some (Obj.cells A 25 (0, 0))) ?_
  rw [← prI_set0 l k x y z hk]
  simp
theorem copy_spans0 (w : World) (H : Nat) (a : Option Addr) (cap' m cap : Nat) : (Builtin.copy_ #[22, 22] 3 #[.slice (some ⟨H, 0, none⟩) m cap, .slice a 0 cap']).run Tryd.prog w = .ok (goInt 0) w := by
  have hs := infoSp1
  cases hq : Tryd.prog.info? 25 with
  | none => rw [hq] at hs; cases hs
  | some i => cases a <;> simp [Builtin.copy_, run_underlying Tryd.underlying22, Builtin.lenOf, Builtin.firstCells, sizeOf, typeInfo, hq, storeCells, loadCells, loadCellsFrom]
/-- copy over what stands there -/
theorem copy_over (w : World) (H : Nat) (a : Option Addr) (cap' : Nat) (ps old rest : List (List UInt8)) (hs : At w a ps) (ho : old.length = ps.length) (hR : Row w H (old ++ rest)) (m cap : Nat) (hm : m = ps.length + rest.length) :
    ∃ w', (Builtin.copy_ #[23, 23] 3 #[.slice (some ⟨H, 0, none⟩) m cap, .slice a ps.length cap']).run Tryd.prog w = .ok (goInt ps.length) w' ∧ Row w' H (ps ++ rest) ∧ But H w w' := by
  by_cases h0 : ps.length = 0
  · obtain rfl : ps = [] := List.length_eq_zero_iff.1 h0
    obtain rfl : old = [] := List.length_eq_zero_iff.1 ho
    exact ⟨w, run_copy_none (P := Tryd.prog) w _ _ _ 9 _ _ _ _ _ _ Tryd.underlying23 infoS1 (by simp), hR, But.refl _ _⟩
  · obtain ⟨x, rfl, hx, _⟩ := hs 0 _ (List.getElem?_eq_getElem (by omega))
    have h := run_copy_row (P := Tryd.prog) w 23 23 3 9 H 0 m cap x ps.length cap' _ 9 (svs ps) Tryd.underlying23 infoS1 hR
      (by rw [svs_length]; exact (Nat.min_eq_left (by omega)).symm) (fun j u hu => by
        simp only [svs, List.getElem?_map, Option.map_eq_some_iff] at hu
        obtain ⟨p, hp, rfl⟩ := hu
        obtain ⟨y, hy, _, hc⟩ := hs j p hp
        cases hy
        exact hc) (by simp [svs]; omega) (fun u hu => svs_one' hu)
    refine ⟨_, h.trans (by rw [svs_length]), ?_, (But.refl _ _).setRow _⟩
    unfold Row
    rw [setRow_heap _ _ _ _ _ _ hR]
    refine congrArg (fun A => some (Obj.cells A 9 (0, 0))) ?_
    refine congrArg List.toArray ?_
    have e : svs (old ++ rest) = svs old ++ svs rest := by simp [svs]
    rw [List.toList_toArray, e, Nat.zero_add, List.take_zero, List.nil_append, List.drop_append_of_le_length (by rw [svs_length]; omega), List.drop_eq_nil_of_le (by rw [svs_length]; omega), List.nil_append]
    simp [svs]
/-- lists that are lent, while texts are not there yet -/
structure Ln1 (w w' : World) (X1 : Nat) (b e : Int) (P : List (Int × Int)) : Prop where
  sp : SpI w' w.heap.size b e
  rp : RowP w' X1 P
  x1 : w.heap.size < X1
  bel : Below w.heap.size w w'
structure Lnt (w w' : World) (X1 X2 : Nat) (b e : Int) (P : List (Int × Int)) (Q : List (List UInt8)) : Prop where
  sp : SpI w' w.heap.size b e
  rp : RowP w' X1 P
  rt : Row w' X2 Q
  x1 : w.heap.size < X1
  x2 : X1 < X2
  bel : Below w.heap.size w w'
theorem Lnt.below {w w' w'' : World} {X1 X2 : Nat} {b e : Int} {P : List (Int × Int)} {Q : List (List UInt8)} (h : Lnt w w' X1 X2 b e P Q) (hb : Below w'.heap.size w' w'') : Lnt w w'' X1 X2 b e P Q :=
  ⟨h.sp.below hb, h.rp.below hb h.rp.lt, h.rt.below hb h.rt.lt, h.x1, h.x2, h.bel.trans (hb.mono h.bel.size)⟩
theorem Lnt.but {w w' w'' : World} {X1 X2 : Nat} {b e : Int} {P : List (Int × Int)} {Q Q' : List (List UInt8)} (h : Lnt w w' X1 X2 b e P Q) (hb : But X2 w' w'') (hr : Row w'' X2 Q') : Lnt w w'' X1 X2 b e P Q' :=
  ⟨(hb.block _ (lt_of_heap h.sp) (by have := h.x1; have := h.x2; omega)).trans h.sp, (hb.block _ h.rp.lt (by have := h.x2; omega)).trans h.rp, hr, h.x1, h.x2, h.bel.trans (hb.below (by have := h.x1; have := h.x2; omega) h.bel.size)⟩
theorem make1 (K : List (Int × Int)) (ak : Option Addr) (ck : Nat) (b e : Int) (w : World) (hk : K.length ≤ 8796093021952) (hK : AtQ w ak K) : ∃ w2 w3, Hid ((Instr.makeSlice 22 (.int .i64 ((K.length : Int) + 8)) (.int .i64 ((K.length : Int) + 8))).run Tryd.prog (w.alloc (.cells #[.int .i64 b, .int .i64 e] 25)) = .ok (.slice (some ⟨w.heap.size + 1, 0, none⟩) (K.length + 8) (K.length + 8)) w2) ∧
    Hid ((Builtin.copy_ #[22, 22] 3 #[.slice (some ⟨w.heap.size + 1, 0, none⟩) (K.length + 8) (K.length + 8), .slice ak K.length ck]).run Tryd.prog w2 = .ok (goInt K.length) w3) ∧ Hid (Ln1 w w3 (w.heap.size + 1) b e (K ++ s77 0)) := by
  have S0 := SpI.new w b e
  have b0 := (Below.refl w.heap.size w).alloc (Nat.le_refl _) (.cells #[.int .i64 b, .int .i64 e] 25)
  have z0 := size_alloc w (.cells #[.int .i64 b, .int .i64 e] 25)
  generalize w.alloc (.cells #[.int .i64 b, .int .i64 e] 25) = w1 at *
  have hmk := make_spans8 w1 (K.length + 8) (by omega)
  rw [z0, show ((K.length + 8 : Nat) : Int) = (K.length : Int) + 8 from by omega] at hmk
  have R1 : RowP (w1.alloc (.cells (prI (List.replicate (K.length + 8) (0, 0))).toArray 25)) (w.heap.size + 1) (List.replicate K.length (0, 0) ++ s77 0) := by
    have := heap_alloc_new w1 (.cells (prI (List.replicate (K.length + 8) (0, 0))).toArray 25)
    rw [z0] at this
    unfold RowP s77
    rw [show List.replicate 0 ((77 : Int), (0 : Int)) = [] from rfl, List.nil_append, List.replicate_append_replicate]
    exact this
  have b1 := (Below.refl w1.heap.size w1).alloc (Nat.le_refl _) (.cells (prI (List.replicate (K.length + 8) (0, 0))).toArray 25)
  have S1 := S0.below b1
  have b01 := b0.trans (b1.mono b0.size)
  generalize w1.alloc (.cells (prI (List.replicate (K.length + 8) (0, 0))).toArray 25) = w2 at *
  by_cases h0 : K.length = 0
  · refine ⟨w2, w2, hmk, ?_, ⟨S1, ?_, by omega, b01⟩⟩
    · rw [h0]; exact copy_spans0 w2 _ ak ck _ _
    · obtain rfl : K = [] := List.length_eq_zero_iff.1 h0
      exact R1
  · obtain ⟨w3, h1, h2, h3⟩ := copy_spans8 w2 (w.heap.size + 1) ak ck K (s77 0) (hK.below b01 (Nat.le_refl _)) R1 (K.length + 8) (K.length + 8) (by rw [s77_len 0 (by omega)]) (by omega)
    exact ⟨w2, w3, hmk, h1, ⟨(h3.block _ (lt_of_heap S1) (by omega)).trans S1, h2, by omega, b01.trans (h3.below (by omega) b01.size)⟩⟩
theorem make2 (H : List (List UInt8)) (ah : Option Addr) (ch X1 : Nat) (b e : Int) (P : List (Int × Int)) (w w4 : World) (hh : H.length ≤ 8796093021952) (hH : At w ah H) (h : Ln1 w w4 X1 b e P) : ∃ w5 w6, Hid ((Instr.makeSlice 23 (.int .i64 ((H.length : Int) + 8)) (.int .i64 ((H.length : Int) + 8))).run Tryd.prog w4 = .ok (.slice (some ⟨w4.heap.size, 0, none⟩) (H.length + 8) (H.length + 8)) w5) ∧
    Hid ((Builtin.copy_ #[23, 23] 3 #[.slice (some ⟨w4.heap.size, 0, none⟩) (H.length + 8) (H.length + 8), .slice ah H.length ch]).run Tryd.prog w5 = .ok (goInt H.length) w6) ∧ Hid (Lnt w w6 X1 w4.heap.size b e P (H ++ bh 0)) := by
  have hmk := make_texts w4 (H.length + 8) (by omega)
  rw [show ((H.length + 8 : Nat) : Int) = (H.length : Int) + 8 from by omega] at hmk
  have R1 : Row (w4.alloc (.cells (svs (List.replicate (H.length + 8) [])).toArray 9)) w4.heap.size (List.replicate H.length [] ++ bh 0) := by
    unfold bh
    rw [show List.replicate 0 bhd = [] from rfl, List.nil_append, List.replicate_append_replicate]; exact heap_alloc_new w4 _
  have b1 := (Below.refl w4.heap.size w4).alloc (Nat.le_refl _) (.cells (svs (List.replicate (H.length + 8) [])).toArray 9)
  have z1 := size_alloc w4 (.cells (svs (List.replicate (H.length + 8) [])).toArray 9)
  have b01 := h.bel.trans (b1.mono h.bel.size)
  have S1 := h.sp.below b1
  have P1 := h.rp.below b1 h.rp.lt
  have x2 := h.rp.lt
  generalize w4.alloc (.cells (svs (List.replicate (H.length + 8) [])).toArray 9) = w5 at *
  obtain ⟨w6, h1, h2, h3⟩ := copy_texts w5 w4.heap.size ah ch H (bh 0) (hH.below b01 (Nat.le_refl _)) R1 (H.length + 8) (H.length + 8) (by rw [bh_len 0 (by omega)])
  exact ⟨w5, w6, hmk, h1, ⟨(h3.block _ (lt_of_heap S1) (by have := h.x1; omega)).trans S1, (h3.block _ P1.lt (by omega)).trans P1, h2, h.x1, x2, b01.trans (h3.below (by have := h.x1; omega) b01.size)⟩⟩
end Go.Proofs.YtdmaiodckialmaaDoor

namespace Go.Proofs.YtdmaiodckialmaaDoor
open Go.RowKit Go.Shelf
theorem infoS8 : (Tryd.prog.info? 9).map (fun i => (i.zero, i.size, i.bytes)) = some (some (.string ⟨#[]⟩), 1, 16) := by kernel_rfl
theorem OwnM.at8 {w : World} {a : Option Addr} {n c : Nat} {l : List (List UInt8)} (h : OwnM 1 w (.slice a n c) n (svs l)) : At w a l := fun j p hp => by
  obtain ⟨g, cap, e, h1, h2⟩ := h.cell (show (svs l)[j]? = some (sv p) by simp [svs, hp])
  injection e with e _ _
  exact ⟨_, e, h2, by rw [Addr.add_mid, Nat.zero_add]; exact h1⟩
theorem Lnt.grow {w w' w'' : World} {X1 X2 : Nat} {b e : Int} {P : List (Int × Int)} {Q : List (List UInt8)} {v v' : Value} (h : Lnt w w' X1 X2 b e P Q) (hg : Grow w' w'' v v') (hv : ∀ g, v.ownBlock = some g → X2 < g) : Lnt w w'' X1 X2 b e P Q :=
  ⟨(hg.old _ (lt_of_heap h.sp) (fun e => by have := hv _ e; have := h.x1; have := h.x2; omega)).trans h.sp, (hg.old _ h.rp.lt (fun e => by have := hv _ e; have := h.x2; omega)).trans h.rp, (hg.old _ h.rt.lt (fun e => by have := hv _ e; omega)).trans h.rt, h.x1, h.x2,
   h.bel.trans ⟨hg.os, hg.tape, hg.output, hg.size, fun k hk => hg.old k (Nat.lt_of_lt_of_le hk h.bel.size) (fun e => by have := hv _ e; have := h.x1; have := h.x2; omega)⟩⟩
theorem Lnt.drewK {w w' : World} {X1 X2 : Nat} {b e : Int} {P : List (Int × Int)} {Q : List (List UInt8)} (h : Lnt w w' X1 X2 b e P Q) (k : Nat) : Lnt w (w'.drewN k) X1 X2 b e P Q := ⟨h.sp, h.rp, h.rt, h.x1, h.x2, below_drewN h.bel _⟩
theorem Lnt.drew1 {w w' : World} {X1 X2 : Nat} {b e : Int} {P : List (Int × Int)} {Q : List (List UInt8)} (h : Lnt w w' X1 X2 b e P Q) : Lnt w w'.drew X1 X2 b e P Q := ⟨h.sp, h.rp, h.rt, h.x1, h.x2, h.bel.drew⟩
set_option maxRecDepth 100000 in
set_option maxHeartbeats 800000 in
theorem folds8_any (size : Int) (K : List (Int × Int)) (H : List (List UInt8)) (b e : Int) (ak ah : Option Addr) (ck ch : Nat) (w : World) (hk : K.length ≤ 8796093021952) (hh : H.length ≤ 8796093021952) (hq : ∀ q ∈ H, q.length ≤ 140737488351232) (hK : AtQ w ak K) (hH : At w ah H) (T : Tabs w) :
    Calls Tryd.prog 5 #[.int .i64 size, .slice ak K.length ck, .slice ah H.length ch, sg b e] w fun r w' => r = .returned (.bool true) ∧ Below w.heap.size w w' := by
  obtain ⟨w2, w3, hmk, hcp, L3⟩ := make1 K ak ck b e w hk hK
  have AK := hid (fun w' (h : Below w.heap.size w w') => hK.below h (Nat.le_refl _))
  have AH := hid (fun w' (h : Below w.heap.size w w') => hH.below h (Nat.le_refl _))
  have AT := hid (fun w' (h : Below w.heap.size w w') => T.below h T.lt)
  have mk2 := fun w4 h4 => make2 H ah ch (w.heap.size + 1) b e (K ++ s77 8) w w4 hh hH h4
  have HQ := hid hq
  have iP := fun w' a' a'' (h : Below w.heap.size w w') (h1 : AtP w' a' K) (h2 : At w' a'' H) => foldF_any size K H b e a' a'' (K.length + 8) (H.length + 8) w' (by omega) (by omega) h1 h2 (AT.out _ h)
  have iR := fun w' (h : Below w.heap.size w w') => rFold8_any size K H b e ak ah ck ch w' (by omega) (by omega) (AK.out _ h) (AH.out _ h)
  obtain ⟨n, hn⟩ : ∃ n, K.length = n := ⟨_, rfl⟩
  obtain ⟨m, hm⟩ : ∃ m, H.length = m := ⟨_, rfl⟩
  have HN := hid hn
  have HM := hid hm
  rw [hn] at hmk hcp hk iP iR ⊢
  rw [hm] at hh mk2 iP iR ⊢
  generalize foldA size K H b e = A at *
  have hmk := hmk.out
  have hcp := hcp.out
  unfold sg at iP iR ⊢
  obtain ⟨X1, hX1⟩ : ∃ X1, w.heap.size + 1 = X1 := ⟨_, rfl⟩
  rw [hX1] at hmk hcp L3 mk2
  clear hK hH hq T hn hm
  go_enter Tryd.func5, Tryd.ntmps5
  go_wp2
  go_loopw [11] (fun i w' => ∃ j : Nat, j ≤ 8 ∧ i = .int .i64 ((n : Int) + (j : Int)) ∧ Hid (Ln1 w w' X1 b e (K ++ s77 j))) (fun i _ => n + 8 - (intOf i).toNat)
  case atStart => exact ⟨0, by omega, by simp, L3⟩
  case round =>
    clear L3 hmk hcp
    obtain ⟨j, hj, rfl, hL⟩ := hrel
    by_cases hlt : j < 8
    · have b0 : (n : Int) + (j : Int) < (n : Int) + 8 := by omega
      have b1 : (0 : Int) ≤ (n : Int) + (j : Int) := by omega
      have t1 : ((n : Int) + (j : Int)).toNat = n + j := by omega
      have hat : (K ++ s77 j)[n + j]? = some (0, 0) := by
        rw [List.getElem?_append_right (by rw [HN.out]; omega), HN.out, Nat.add_sub_cancel_left]; exact s77_at j hlt
      obtain ⟨c0, c1⟩ := hL.out.rp.cell hat
      have fz : wr.frozen? ⟨X1, (n + j) * 2, none⟩ = false := frozen_of_row _ _ _ _ _ hL.out.rp
      have R' := hL.out.rp.set0 hat 77
      have es : (K ++ s77 j).set (n + j) (77, 0) = K ++ s77 (j + 1) := by
        rw [List.set_append_right _ _ (by rw [HN.out]; omega), HN.out, Nat.add_sub_cancel_left, s77_set j hlt]
      rw [es] at R'
      have L' : Hid (Ln1 w (wr.setCell ⟨X1, (n + j) * 2, none⟩ (.int .i64 77)) X1 b e (K ++ s77 (j + 1))) := ⟨(heap_setCell_other wr ⟨X1, (n + j) * 2, none⟩ w.heap.size _ (by show w.heap.size ≠ X1; omega)).trans hL.out.sp, R', hL.out.x1, hL.out.bel.setCell (p := ⟨X1, (n + j) * 2, none⟩) (by show w.heap.size ≤ X1; omega) _⟩
      clear hL R' es hat
      go_wp2
      exact ⟨⟨j + 1, by omega, by rw [show (n : Int) + (j : Int) + 1 = (n : Int) + ((j + 1 : Nat) : Int) from by omega], L'⟩, by simp [intOf]; omega⟩
    · obtain rfl : j = 8 := by omega
      rw [show ((8 : Nat) : Int) = 8 from rfl]
      have b0 : ¬ (n : Int) + 8 < (n : Int) + 8 := by omega
      obtain ⟨w5, w6, hmk2, hcp2, L6⟩ := mk2 wr hL.out
      have hmk2 := hmk2.out
      have hcp2 := hcp2.out
      obtain ⟨X2, hX2⟩ : ∃ X2, wr.heap.size = X2 := ⟨_, rfl⟩
      rw [hX2] at hmk2 hcp2 L6
      have hX12 := L6.out.x2
      clear hL mk2
      go_wp2
      go_loopw [14] (fun i w' => ∃ j : Nat, j ≤ 8 ∧ i = .int .i64 ((m : Int) + (j : Int)) ∧ Hid (Lnt w w' X1 X2 b e (K ++ s77 8) (H ++ bh j))) (fun i _ => m + 8 - (intOf i).toNat)
      case atStart => exact ⟨0, by omega, by simp, L6⟩
      case round =>
        clear L6 hmk2 hcp2
        obtain ⟨j, hj, rfl, hL⟩ := hrel
        by_cases hlt : j < 8
        · have b2 : (m : Int) + (j : Int) < (m : Int) + 8 := by omega
          have b1 : (0 : Int) ≤ (m : Int) + (j : Int) := by omega
          have t1 : ((m : Int) + (j : Int)).toNat = m + j := by omega
          have hl : (H ++ bh j).length = m + 8 := by rw [List.length_append, bh_len j (by omega), HM.out]
          have cp := hL.out.rt.cell (List.getElem?_eq_getElem (show m + j < (H ++ bh j).length by omega))
          have fz := hL.out.rt.free (show m + j < (H ++ bh j).length by omega)
          have R' := hL.out.rt.set (m + j) bhd
          have es : (H ++ bh j).set (m + j) bhd = H ++ bh (j + 1) := by
            rw [List.set_append_right _ _ (by rw [HM.out]; omega), HM.out, Nat.add_sub_cancel_left, bh_set j hlt]
          rw [es, bhd_sv] at R'
          have L' := hid (hL.out.but ((But.refl X2 wr).setCell (m + j) _) R')
          clear hL R' es
          go_wp2
          exact ⟨⟨j + 1, by omega, by rw [show (m : Int) + (j : Int) + 1 = (m : Int) + ((j + 1 : Nat) : Int) from by omega], L'⟩, by simp [intOf]; omega⟩
        · obtain rfl : j = 8 := by omega
          rw [show ((8 : Nat) : Int) = 8 from rfl]
          have b2 : ¬ (m : Int) + 8 < (m : Int) + 8 := by omega
          have s0 := hL.out.sp.c0
          have s1 := hL.out.sp.c1
          have l0 : w.heap.size < wr.heap.size := lt_of_heap hL.out.sp
          have aK : AtP wr (some ⟨X1, 0, none⟩) K := by
            have := hL.out.rp.at.take n
            rwa [List.take_left' HN.out] at this
          have aH : At wr (some ⟨X2, 0, none⟩) H := by
            have := hL.out.rt.at.take m
            rwa [List.take_left' HM.out] at this
          have i1 := iP wr.drew (some ⟨X1, 0, none⟩) (some ⟨X2, 0, none⟩) hL.out.bel.drew aK aH
          have n0 : (0 : Int) ≤ (n : Int) := by omega
          have n1 : (n : Int) ≤ (n : Int) + 8 := by omega
          have n2 : (n : Int) ≤ ((n + 8 : Nat) : Int) := by omega
          have m0 : (0 : Int) ≤ (m : Int) := by omega
          have m1 : (m : Int) ≤ (m : Int) + 8 := by omega
          have m2 : (m : Int) ≤ ((m + 8 : Nat) : Int) := by omega
          go_upto_region 15 with fail
          go_region_held3 (fun w' => w'.cell? ⟨w.heap.size, 0, none⟩ = some (.int .i64 b) ∧ w'.cell? ⟨w.heap.size, 1, none⟩ = some (.int .i64 e)) (first | exact e4 | exact ⟨s0, s1⟩)
            (first | (go_at_call 18; (with_reducible refine i1.mono ?_); rintro r w8 ⟨rfl, b8'⟩; have b8 := drewBelow8 b8'; have e4 := And.intro ((b8.cell (p := ⟨w.heap.size, 0, none⟩) l0).trans s0) ((b8.cell (p := ⟨w.heap.size, 1, none⟩) l0).trans s1)))
          have L8 := hid (hL.out.below b8)
          clear hL b8 b8' e4 s0 s1 l0 aK aH i1
          have s0 := L8.out.sp.c0
          have s1 := L8.out.sp.c1
          go_wp2_with (go_at_call 21; fail)
          refine (iR _ L8.out.bel).mono ?_
          rintro r w9 ⟨rfl, b9⟩
          have L9 := hid (L8.out.below b9)
          clear L8 b9 s0 s1 iP iR
          go_wp2
          go_loopw [19] (fun i w' => ∃ k : Nat, k ≤ n + 8 ∧ i = .int .i64 (k : Int) ∧ Hid (Lnt w w' X1 X2 b e (K ++ s77 8) (H ++ bh 8))) (fun i _ => n + 8 - (intOf i).toNat)
          case atStart => exact ⟨0, by omega, rfl, L9⟩
          case round =>
            clear L9
            obtain ⟨k, hk8, rfl, hL⟩ := hrel
            by_cases hkl : k < n + 8
            · have b3 : (k : Int) < (n : Int) + 8 := by omega
              have k0 : (0 : Int) ≤ (k : Int) := by omega
              by_cases hkn : k < n
              · have b4 : (k : Int) < (n : Int) := by omega
                have f4 : decide ((k : Int) < (n : Int)) = true := decide_eq_true b4
                have b5 : ¬ (n : Int) ≤ (k : Int) := by omega
                have b5n : ¬ n ≤ k := by omega
                clear f4
                obtain ⟨x, y, hx⟩ : ∃ x y, K[k]? = some (x, y) := ⟨_, _, List.getElem?_eq_getElem (by rw [HN.out]; exact hkn)⟩
                have ha : (K ++ s77 8)[k]? = some (x, y) := by rw [List.getElem?_append_left (by rw [HN.out]; exact hkn)]; exact hx
                obtain ⟨p0, p1⟩ := hL.out.rp.cell ha
                obtain ⟨g, hg, _, q0, q1⟩ := (AK.out _ hL.out.bel) k (x, y) hx
                subst hg
                have p0 : wr.cell? ⟨X1, k * 2, none⟩ = some (.int .i64 x) := p0
                have p1 : wr.cell? ⟨X1, k * 2 + 1, none⟩ = some (.int .i64 y) := p1
                have q0 : wr.cell? (g.add (k * 2)) = some (.int .i64 x) := q0
                have q1 : wr.cell? ⟨(g.add (k * 2)).block, (g.add (k * 2)).off + 1, none⟩ = some (.int .i64 y) := by
                  show wr.cell? ((g.add (k * 2)).add 1) = _
                  rw [add_one8]; exact q1
                clear hx ha
                go_wp2
                go_quiet (fail)
                go_wp2
                exact ⟨⟨k + 1, by omega, by go_num, by first | exact hL | exact hid hL.out.drew1 | exact hid (hL.out.drewK _)⟩, by simp [intOf]; omega⟩
              · have b4 : ¬ (k : Int) < (n : Int) := by omega
                have b5 : (n : Int) ≤ (k : Int) := by omega
                have f4 : decide ((k : Int) < (n : Int)) = false := decide_eq_false b4
                have f5 : decide ((n : Int) ≤ (k : Int)) = true := decide_eq_true b5
                have ha : (K ++ s77 8)[k]? = some (77, 0) := by rw [List.getElem?_append_right (by rw [HN.out]; omega), HN.out, s77_all, List.getElem?_replicate, if_pos (by omega)]
                obtain ⟨p0, p1⟩ := hL.out.rp.cell ha
                have p0 : wr.cell? ⟨X1, k * 2, none⟩ = some (.int .i64 77) := p0
                have p1 : wr.cell? ⟨X1, k * 2 + 1, none⟩ = some (.int .i64 0) := p1
                clear ha
                go_wp2
                go_quiet (fail)
                go_wp2
                exact ⟨⟨k + 1, by omega, by go_num, by first | exact hL | exact hid hL.out.drew1 | exact hid (hL.out.drewK _)⟩, by simp [intOf]; omega⟩
            · obtain rfl : k = n + 8 := by omega
              have b3 : ¬ ((n + 8 : Nat) : Int) < (n : Int) + 8 := by omega
              rw [show ((n + 8 : Nat) : Int) = (n : Int) + 8 from by omega]
              have b3' : ¬ (n : Int) + 8 < (n : Int) + 8 := by omega
              go_wp2
              go_loopw [20] (fun i w' => ∃ k : Nat, k ≤ m + 8 ∧ i = .int .i64 (k : Int) ∧ Hid (Lnt w w' X1 X2 b e (K ++ s77 8) (H ++ bh 8))) (fun i _ => m + 8 - (intOf i).toNat)
              case atStart => exact ⟨0, by omega, rfl, hL⟩
              case round =>
                clear hL
                obtain ⟨k, hk8, rfl, hL⟩ := hrel
                by_cases hkl : k < m + 8
                · have b3 : (k : Int) < (m : Int) + 8 := by omega
                  have k0 : (0 : Int) ≤ (k : Int) := by omega
                  by_cases hkn : k < m
                  · have b4 : (k : Int) < (m : Int) := by omega
                    have f4 : decide ((k : Int) < (m : Int)) = true := decide_eq_true b4
                    have b5 : ¬ (m : Int) ≤ (k : Int) := by omega
                    have b5n : ¬ m ≤ k := by omega
                    clear f4
                    obtain ⟨x, hx⟩ : ∃ x, H[k]? = some x := ⟨_, List.getElem?_eq_getElem (by rw [HM.out]; exact hkn)⟩
                    have ha : (H ++ bh 8)[k]? = some x := by rw [List.getElem?_append_left (by rw [HM.out]; exact hkn)]; exact hx
                    have p0 := hL.out.rt.cell ha
                    obtain ⟨y, hy, _, q0⟩ := (AH.out _ hL.out.bel) k x hx
                    subst hy
                    rw [show sv x = Value.string ⟨x.toArray⟩ from rfl] at p0 q0
                    generalize (⟨x.toArray⟩ : ByteArray) = xb at *
                    have hrr : (xb.toList != xb.toList) = false := by simp
                    clear hx ha
                    go_wp2
                    go_quiet (fail)
                    go_wp2
                    exact ⟨⟨k + 1, by omega, by go_num, by first | exact hL | exact hid hL.out.drew1 | exact hid (hL.out.drewK _)⟩, by simp [intOf]; omega⟩
                  · have b4 : ¬ (k : Int) < (m : Int) := by omega
                    have b5 : (m : Int) ≤ (k : Int) := by omega
                    have f4 : decide ((k : Int) < (m : Int)) = false := decide_eq_false b4
                    have f5 : decide ((m : Int) ≤ (k : Int)) = true := decide_eq_true b5
                    have ha : (H ++ bh 8)[k]? = some bhd := by rw [List.getElem?_append_right (by rw [HM.out]; omega), HM.out, bh_all, List.getElem?_replicate, if_pos (by omega)]
                    have p0 := hL.out.rt.cell ha
                    rw [bhd_sv] at p0
                    clear ha
                    go_wp2
                    go_quiet (fail)
                    go_wp2
                    exact ⟨⟨k + 1, by omega, by go_num, by first | exact hL | exact hid hL.out.drew1 | exact hid (hL.out.drewK _)⟩, by simp [intOf]; omega⟩
                · obtain rfl : k = m + 8 := by omega
                  have b6 : ¬ ((m + 8 : Nat) : Int) < (m : Int) + 8 := by omega
                  rw [show ((m + 8 : Nat) : Int) = (m : Int) + 8 from by omega]
                  have b6' : ¬ (m : Int) + 8 < (m : Int) + 8 := by omega
                  go_wp2
                  go_loopw [21, 22, 23] (fun v i _ w' => ∃ k : Nat, k ≤ m ∧ i = .int .i64 (k : Int) ∧ Hid (Lnt w w' X1 X2 b e (K ++ s77 8) (H ++ bh 8)) ∧ Hid (OwnM 1 w' v k (svs ((H.take k).map Sha.sha))) ∧ Hid (∀ g, v.ownBlock = some g → X2 < g)) (fun _ i _ _ => m - (intOf i).toNat)
                  case atStart => exact ⟨0, by omega, rfl, hL, hid (OwnM.nil 1 _), hid (fun g hg => by cases hg)⟩
                  case round =>
                    clear hL
                    obtain ⟨k, hkm, rfl, hL, hO, hF⟩ := hrel
                    by_cases hkn : k < m
                    · have b7 : (k : Int) < (m : Int) := by omega
                      have b7' : (k : Int) < (m : Int) + 8 := by omega
                      have k0 : (0 : Int) ≤ (k : Int) := by omega
                      have hkH : k < H.length := by rw [HM.out]; exact hkn
                      have ha : (H ++ bh 8)[k]? = some H[k] := by rw [List.getElem?_append_left hkH, List.getElem?_eq_getElem hkH]
                      have p0 := hL.out.rt.cell ha
                      have hsz := HQ.out H[k] (List.getElem_mem hkH)
                      have i1 := fun w' => hash8_any ⟨H[k].toArray⟩ (by rw [sv_size]; omega) w'
                      have enx : (H.take (k + 1)).map Sha.sha = (H.take k).map Sha.sha ++ [Sha.sha H[k]] := by
                        rw [List.take_add_one, List.getElem?_eq_getElem hkH, List.map_append]; rfl
                      have HE := hid enx
                      rw [show (⟨H[k].toArray⟩ : ByteArray).data.toList = H[k] from rfl] at i1
                      rw [show sv H[k] = Value.string ⟨H[k].toArray⟩ from rfl] at p0
                      generalize (⟨H[k].toArray⟩ : ByteArray) = xb at *
                      generalize Sha.sha H[k] = D at *
                      simp only [show sv D = Value.string ⟨D.toArray⟩ from rfl] at i1
                      clear ha hsz enx
                      go_wp2_with (go_at_call 9; fail)
                      refine (i1 _).mono ?_
                      rintro r wh ⟨rfl, bh'⟩
                      have L1 := hL.out.below bh'
                      have O1 := hO.out.below bh'
                      obtain ⟨v2, wg, hap, O2, G2⟩ := append_oneL 23 9 _ 16 Tryd.underlying23 infoS8 rfl wh _ k (svs ((H.take k).map Sha.sha)) [.string ⟨D.toArray⟩] rfl (fun u hu => by
                        simp only [List.mem_cons, List.not_mem_nil, or_false] at hu
                        subst hu; rfl) O1 (by omega) (by rw [maxLen]; omega)
                      have L2 := hid (L1.grow G2 hF.out)
                      have O3 : Hid (OwnM 1 wg v2 (k + 1) (svs ((H.take (k + 1)).map Sha.sha))) := by
                        unfold Hid
                        rw [HE.out]
                        have : svs ((H.take k).map Sha.sha ++ [D]) = svs ((H.take k).map Sha.sha) ++ [.string ⟨D.toArray⟩] := by simp [svs]; rfl
                        rw [this]
                        exact O2
                      have F3 : Hid (∀ g, v2.ownBlock = some g → X2 < g) := fun g hg => by
                        rcases G2.alt with e | ⟨e, _⟩
                        · exact hF.out g (e ▸ hg)
                        · have := e g hg; have := L1.rt.lt; omega
                      clear bh' L1 O1 O2 G2 hL hO hF i1
                      go_wp2_with (at_builtin; go_must (refine Lib.wpList_append_run _ rfl _ _ 23 23 rfl _ _ rfl rfl _ _ hap ?_))
                      exact ⟨⟨k + 1, by omega, by go_num, L2, O3, F3⟩, by simp [intOf]; omega⟩
                    · obtain rfl : k = m := by omega
                      have b7 : ¬ (k : Int) < (k : Int) := by omega
                      have hO := hO.out
                      rw [List.take_of_length_le (by rw [HM.out]; exact Nat.le_refl _)] at hO
                      obtain ⟨O, hOl⟩ : ∃ O, H.map Sha.sha = O := ⟨_, rfl⟩
                      have lO : O.length = k := by rw [← hOl, List.length_map]; exact HM.out
                      rw [hOl] at hO
                      obtain ⟨ao, co, eo, _, _⟩ := hO.shape
                      subst eo
                      have AO := hO.at8
                      obtain ⟨wc, hcp3, R3, But3⟩ := copy_over wr X2 ao co O H (bh 8) AO (by rw [lO]; exact HM.out) hL.out.rt (k + 8) (k + 8) (by rw [lO, bh_len 8 (by omega)])
                      rw [lO] at hcp3
                      have LC := hid (hL.out.but But3 R3)
                      have OC : Hid (OwnM 1 wc (.slice ao k co) k (svs O)) := hO.kept But3.size (fun g hg => But3.block g (hO.lt g hg) (by have := hF.out g hg; omega))
                      clear hL hO AO R3 But3
                      go_wp2
                      have s0 := LC.out.sp.c0
                      have s1 := LC.out.sp.c1
                      have l0 : w.heap.size < wc.heap.size := lt_of_heap LC.out.sp
                      have aK : AtP wc (some ⟨X1, 0, none⟩) K := by
                        have := LC.out.rp.at.take n
                        rwa [List.take_left' HN.out] at this
                      have aO : At wc (some ⟨X2, 0, none⟩) O := by
                        have := LC.out.rt.at.take k
                        rwa [List.take_left' lO] at this
                      have i1 := foldF_any size K O b e (some ⟨X1, 0, none⟩) (some ⟨X2, 0, none⟩) (n + 8) (k + 8) wc.drew (by rw [HN.out]; omega) (by rw [lO]; omega) aK aO (AT.out _ LC.out.bel.drew)
                      have iR2 := fun w' (h : Below w.heap.size w w') (hA : At w' ao O) => rFold8_any size K O b e ak ao ck co w' (by rw [HN.out]; omega) (by rw [lO]; omega) (AK.out _ h) hA
                      rw [HN.out, lO] at i1 iR2
                      unfold sg at i1 iR2
                      generalize foldA size K O b e = A2 at *
                      have h1 : (A.1.toList == A.1.toList) = true := by simp
                      have h2 : (A.2 == A.2) = true := by simp
                      have h3 : (A2.1.toList == A2.1.toList) = true := by simp
                      have h4 : (A2.2 == A2.2) = true := by simp
                      go_upto_region 34 with fail
                      go_region_held3 (fun w' => w'.cell? ⟨w.heap.size, 0, none⟩ = some (.int .i64 b) ∧ w'.cell? ⟨w.heap.size, 1, none⟩ = some (.int .i64 e)) (first | exact e4 | exact ⟨s0, s1⟩)
                        (first | (go_at_call 18; (with_reducible refine i1.mono ?_); rintro r w8 ⟨rfl, b8'⟩; have b8 := drewBelow8 b8'; have e4 := And.intro ((b8.cell (p := ⟨w.heap.size, 0, none⟩) l0).trans s0) ((b8.cell (p := ⟨w.heap.size, 1, none⟩) l0).trans s1)))
                      have L8 := hid (LC.out.below b8)
                      have O8 := hid (OC.out.below b8)
                      clear LC OC b8 b8' e4 s0 s1 l0 aK aO i1
                      have s0 := L8.out.sp.c0
                      have s1 := L8.out.sp.c1
                      go_wp2_with (go_at_call 21; fail)
                      refine (iR2 _ L8.out.bel O8.out.at8).mono ?_
                      rintro r w9 ⟨rfl, b9⟩
                      have B9 := hid (L8.out.bel.trans (b9.mono L8.out.bel.size))
                      clear L8 b9 s0 s1 iR2
                      go_wp2
                      go_ret
                      exact ⟨rfl, B9.out⟩
end Go.Proofs.YtdmaiodckialmaaDoor
