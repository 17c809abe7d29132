import Derived.Test.YtmpaliocfikifaaDoorCBP5
namespace Go.Proofs.YtmpaliocfikifaaDoor
open Go.RowKit Go.Shelf
namespace Bat
theorem str_ne12 {a b : List UInt8} (h : a ≠ b) : ((ByteArray.mk a.toArray).toList != (ByteArray.mk b.toArray).toList) = true := by
  rw [ByteArray.toList_eq, ByteArray.toList_eq]
  show (a != b) = true
  simpa using h
theorem str_eq12 (a : List UInt8) : ((ByteArray.mk a.toArray).toList != (ByteArray.mk a.toArray).toList) = false := by simp
/-- B3: what Root answers -/
theorem knE_ok {n : Int} {cs : List Int} {H L : List (List UInt8)} (h : knE n cs H L = 0) : ∃ (m : Nat) (is : List Nat), n = (m : Int) ∧ cs = ix is ∧ BatOk (m : Int) (ix is) ∧ H.length = (Tree.othF m 0 m is).length ∧ L.length = is.length ∧ hsB8 H = true ∧ hsB8 L = true := by
  unfold knE at h
  split at h
  · rename_i h0
    split at h
    · rename_i h1
      have hb := BatOk.of (tolE_zero.1 h0)
      have n1 := hb.n1
      refine ⟨n.toNat, toN cs, by omega, hb.ix.symm, by rw [hb.ix, Int.toNat_of_nonneg (by omega)]; exact hb, ?_, by rw [h1.2.1]; simp [toN], h1.2.2.1, h1.2.2.2⟩
      rw [h1.1]
      unfold batchL
      rw [if_pos (tolE_zero.1 h0)]
    · cases h
  · rename_i h0; exact absurd h h0
theorem Mk.whole {w : World} {b : Nat} {f : Kn} (h : Mk w b f) {n : Nat} (hn : n ≤ 1099511627776) {x : List UInt8} (hx : f (0, n) = some x) : (Instr.lookup 61 (.map (some b)) (.agg #[.int .i64 0, .int .i64 (n : Int)]) false).run Tryd.prog w = .ok (.agg #[.string ⟨x.toArray⟩]) w :=
  h.get (s := (0, n)) ⟨by show 0 ≤ _; omega, hn⟩ hx
set_option maxRecDepth 100000 in
set_option maxHeartbeats 4000000 in
theorem root12_ok (n : Nat) (is : List Nat) (H L : List (List UInt8)) (val : Nat × Nat → List UInt8) (V : Val is n H L val) (hb0 : BatOk (n : Int) (ix is)) (hH32 : hsB8 H = true) (hL32 : hsB8 L = true) (ai ah al : Option Addr) (ci ch cl : Nat) (w : World) (T : Tabs w) (hA : AtI w ai (ix is)) (hAh : At w ah H) (hAl : At w al L) :
    Calls Tryd.prog 10 #[bt (n : Int) (.slice ai is.length ci) (.slice ah H.length ch), .slice al L.length cl] w fun r w' => r = .returned (.tuple #[sv (val (0, n)), .int .i64 0]) ∧ (val (0, n)).length = 32 ∧ Below w.heap.size w w' := by
  have b0 := (Below.refl w.heap.size w).alloc (Nat.le_refl _) (.cells #[.int .i64 (n : Int), .slice ai is.length ci, .slice ah H.length ch] 31)
  have s0 := BtI.new w (n : Int) (.slice ai is.length ci) (.slice ah H.length ch)
  have i1 := known12_ok n is H L val V hb0 hH32 hL32 ai ah al ci ch cl _ (T.below b0 T.lt) (hA.below b0 (Nat.le_refl _)) (hAh.below b0 (Nat.le_refl _)) (hAl.below b0 (Nat.le_refl _))
  have hlt : ∀ i ∈ is, i < n := fun i hi => by
    have := hb0.all (i : Int) (List.mem_map.2 ⟨i, hi, rfl⟩)
    omega
  have hne : is ≠ [] := by
    intro e
    have := hb0.l1
    rw [e] at this
    simp [ix] at this
  have n2 := hb0.n2
  have HS := hid s0
  have B0 := hid b0
  have x0 := s0.c0
  have x1 := s0.c1
  have x2 := s0.c2
  generalize H.length = hl at *
  generalize L.length = ll at *
  clear V hb0 hH32 hL32 T hA hAh hAl b0 s0
  go_enter Tryd.func10, Tryd.ntmps10
  go_wp2_with (go_at_call 25; refine i1.mono ?_; rintro r w1 ⟨b, g, rfl, M1, C1, W1, hb, b1⟩; have S1 := HS.out.below b1; have y0 := S1.c0; have hg := M1.whole (n := n) (by omega) (C1.root hne hlt); have hv32 := hid (W1 _ _ (C1.root hne hlt)); have hf := field_hash ⟨(val (0, n)).toArray⟩; have B1 := hid (B0.out.trans (b1.mono B0.out.size)); clear M1 C1 W1 b1 S1)
  go_ret2
  exact ⟨rfl, hv32.out, B1.out⟩
set_option maxRecDepth 100000 in
set_option maxHeartbeats 4000000 in
theorem root12_bad (n : Int) (cs : List Int) (H L : List (List UInt8)) (ai ah al : Option Addr) (ci ch cl : Nat) (w : World) (hcs : cs.length ≤ 140737488355328) (hH : H.length ≤ 9223372036854775807) (hL : L.length ≤ 9223372036854775807) (hA : AtI w ai cs) (hAh : At w ah H) (hAl : At w al L) (he : knE n cs H L ≠ 0) :
    Calls Tryd.prog 10 #[bt n (.slice ai cs.length ci) (.slice ah H.length ch), .slice al L.length cl] w fun r w' => r = .returned (.tuple #[sv [], .int .i64 (knE n cs H L)]) ∧ Below w.heap.size w w' := by
  have b0 := (Below.refl w.heap.size w).alloc (Nat.le_refl _) (.cells #[.int .i64 n, .slice ai cs.length ci, .slice ah H.length ch] 31)
  have s0 := BtI.new w n (.slice ai cs.length ci) (.slice ah H.length ch)
  have i1 := known12_bad n cs H L ai ah al ci ch cl _ hcs hH hL (hA.below b0 (Nat.le_refl _)) (hAh.below b0 (Nat.le_refl _)) (hAl.below b0 (Nat.le_refl _)) he
  generalize knE n cs H L = c at *
  have h0' : (c != 0) = true := by simpa using he
  have B0 := hid b0
  have x0 := s0.c0
  have x1 := s0.c1
  have x2 := s0.c2
  generalize H.length = hl at *
  generalize L.length = ll at *
  generalize cs.length = m at *
  clear hA hAh hAl b0 s0
  go_enter Tryd.func10, Tryd.ntmps10
  go_wp2_with (go_at_call 25; refine i1.mono ?_; rintro r w1 ⟨rfl, b1⟩; have B1 := hid (B0.out.trans (b1.mono B0.out.size)); clear b1)
  go_ret2
  exact ⟨rfl, B1.out⟩
set_option maxRecDepth 100000 in
set_option maxHeartbeats 4000000 in
theorem check12_any (n : Int) (H L : List (List UInt8)) (cl2 : Nat) (ai ah al : Option Addr) (ci ch cl : Nat) (x root : List UInt8) (c d : Int) (w : World)
    (hR : ∀ w', Below w.heap.size w w' → Calls Tryd.prog 10 #[bt n (.slice ai cl2 ci) (.slice ah H.length ch), .slice al L.length cl] w' fun r w'' => r = .returned (.tuple #[sv x, .int .i64 c]) ∧ Below w'.heap.size w' w'')
    (hd : d = if c = 0 then (if x = root then 0 else 123) else c) :
    Calls Tryd.prog 14 #[bt n (.slice ai cl2 ci) (.slice ah H.length ch), .slice al L.length cl, sv root] w fun r w' => r = .returned (.int .i64 d) ∧ Below w.heap.size w w' := by
  have b0 := (Below.refl w.heap.size w).alloc (Nat.le_refl _) (.cells #[.int .i64 n, .slice ai cl2 ci, .slice ah H.length ch] 31)
  have s0 := BtI.new w n (.slice ai cl2 ci) (.slice ah H.length ch)
  have i1 := hR _ b0
  have B0 := hid b0
  have x0 := s0.c0
  have x1 := s0.c1
  have x2 := s0.c2
  generalize H.length = hl at *
  generalize L.length = ll at *
  clear hR b0 s0
  by_cases h0 : c = 0
  · rw [if_pos h0] at hd
    subst h0
    by_cases h1 : x = root
    · rw [if_pos h1] at hd
      subst h1
      subst hd
      have e1 := str_eq12 x
      try rw [show sv x = Value.string ⟨x.toArray⟩ from rfl] at i1
      try rw [show sv x = Value.string ⟨x.toArray⟩ from rfl]
      try rw [show sv root = Value.string ⟨root.toArray⟩ from rfl]
      go_enter Tryd.func14, Tryd.ntmps14
      go_wp2_with (go_at_call 10; refine i1.mono ?_; rintro r w1 ⟨rfl, b1⟩; have B1 := hid (B0.out.trans (b1.mono B0.out.size)); clear b1)
      go_ret
      exact ⟨rfl, B1.out⟩
    · rw [if_neg h1] at hd
      subst hd
      have e1 := str_ne12 h1
      have e2 : (x == root) = false := by simpa using h1
      try rw [show sv x = Value.string ⟨x.toArray⟩ from rfl] at i1
      try rw [show sv x = Value.string ⟨x.toArray⟩ from rfl]
      try rw [show sv root = Value.string ⟨root.toArray⟩ from rfl]
      go_enter Tryd.func14, Tryd.ntmps14
      go_wp2_with (go_at_call 10; refine i1.mono ?_; rintro r w1 ⟨rfl, b1⟩; have B1 := hid (B0.out.trans (b1.mono B0.out.size)); clear b1)
      go_ret
      exact ⟨rfl, B1.out⟩
  · rw [if_neg h0] at hd
    subst hd
    have h0' : (d != 0) = true := by simpa using h0
    go_enter Tryd.func14, Tryd.ntmps14
    go_wp2_with (go_at_call 10; refine i1.mono ?_; rintro r w1 ⟨rfl, b1⟩; have B1 := hid (B0.out.trans (b1.mono B0.out.size)); clear b1)
    go_ret
    exact ⟨rfl, B1.out⟩
end Bat
end Go.Proofs.YtmpaliocfikifaaDoor

namespace Go.Proofs.YtmpaliocfikifaaDoor
open Go.RowKit Go.Shelf
namespace Bat
/-- a row of values -/
def RowV (w : World) (G : Nat) (ty : TypeId) (cs : List Value) : Prop := w.heap[G]? = some (.cells cs.toArray ty (0, 0))
theorem RowV.lt {w : World} {G : Nat} {ty : TypeId} {cs : List Value} (h : RowV w G ty cs) : G < w.heap.size := lt_of_heap h
theorem RowV.cell {w : World} {G : Nat} {ty : TypeId} {cs : List Value} (h : RowV w G ty cs) {j : Nat} {v : Value} (hv : cs[j]? = some v) : w.cell? ⟨G, j, none⟩ = some v := by
  rw [cell_of_row _ _ _ _ _ _ h]; simp [hv]
theorem RowV.free {w : World} {G : Nat} {ty : TypeId} {cs : List Value} (h : RowV w G ty cs) {j : Nat} (hj : j < cs.length) : w.frozen? ⟨G, j, none⟩ = false := by
  have := (there_of_row h 0 cs.length (by simp)) j hj
  rw [Nat.zero_add] at this
  exact this.2
theorem RowV.below {w w' : World} {G B : Nat} {ty : TypeId} {cs : List Value} (h : RowV w G ty cs) (hb : Below B w w') (hB : G < B) : RowV w' G ty cs := by
  unfold RowV; rw [hb.block G hB]; exact h
theorem RowV.set {w : World} {G : Nat} {ty : TypeId} {cs : List Value} (h : RowV w G ty cs) (k : Nat) (v : Value) : RowV (w.setCell ⟨G, k, none⟩ v) G ty (cs.set k v) := by
  have e := setCell_eq_setRow w G k cs.toArray ty (0, 0) v h
  unfold RowV
  rw [e, setRow_heap _ _ _ _ _ _ h]
  refine congrArg (fun A => some (Obj.cells A ty (0, 0))) ?_
  simp
theorem infoSl12 : (Tryd.prog.info? 29).map (fun i => (i.zero, i.size, i.bytes)) = some (some (.slice none 0 0), 1, 24) := by kernel_rfl
/-- make([][]string, c) -/
theorem make_lists (w : World) (c : Nat) (hc : c ≤ 1000000) :
    (Instr.makeSlice 35 (.int .i64 (c : Int)) (.int .i64 (c : Int))).run Tryd.prog w = .ok (.slice (some ⟨w.heap.size, 0, none⟩) c c) (w.alloc (.cells (List.replicate c (.slice none 0 0)).toArray 29)) := by
  obtain ⟨i0, hi, hz0, hz1, hz2⟩ := info_parts infoSl12
  have h := run_make (P := Tryd.prog) w 35 29 i0 (.slice none 0 0) Tryd.underlying35 hi hz0 .i64 .i64 (c : Int) (c : Int) (by omega) (by omega) (by rw [hz2]; omega) (by omega)
  rw [Int.toNat_natCast, hz1, Nat.mul_one] at h
  have e : madeCells (Value.slice none 0 0).cells c = (List.replicate c (.slice none 0 0)).toArray := by
    apply Array.ext'
    rw [show (madeCells (Value.slice none 0 0).cells c).toList = List.replicate c (.slice none 0 0) from toList_madeCells_one _ _]
  rw [e] at h
  exact h
theorem make_lists' (w : World) (c : Nat) (hc : c ≤ 1000000) : ∃ w', (Instr.makeSlice 35 (.int .i64 (c : Int)) (.int .i64 (c : Int))).run Tryd.prog w = .ok (.slice (some ⟨w.heap.size, 0, none⟩) c c) w' ∧ RowV w' w.heap.size 29 (List.replicate c (.slice none 0 0)) ∧ Below w.heap.size w w' ∧ w'.heap.size = w.heap.size + 1 :=
  ⟨_, make_lists w c hc, heap_alloc_new w _, (Below.refl _ _).alloc (Nat.le_refl _) _, by simp⟩
/-- a list that lies in a block of its own -/
def lst (g : Nat) (p : List (List UInt8)) : Value := .slice (some ⟨g, 0, none⟩) p.length p.length
/-- the lists so far, and places for others -/
def lsts (gs : List Nat) (ps : List (List (List UInt8))) (m : Nat) : List Value := List.zipWith lst gs ps ++ List.replicate (m - gs.length) (.slice none 0 0)
theorem lsts_len {gs : List Nat} {ps : List (List (List UInt8))} {m : Nat} (h1 : gs.length ≤ ps.length) (h2 : gs.length ≤ m) : (lsts gs ps m).length = m := by
  unfold lsts; rw [List.length_append, List.length_zipWith, List.length_replicate]; omega
theorem zip_more {gs : List Nat} {ps : List (List (List UInt8))} (h : gs.length < ps.length) (g : Nat) : List.zipWith lst (gs ++ [g]) ps = List.zipWith lst gs ps ++ [lst g (ps[gs.length]'h)] := by
  induction gs generalizing ps with
  | nil =>
    cases ps with
    | nil => simp at h
    | cons p ps => simp
  | cons a gs ih =>
    cases ps with
    | nil => simp at h
    | cons p ps =>
      simp only [List.cons_append, List.zipWith_cons_cons, List.cons.injEq, true_and]
      exact ih (by simpa using h)
theorem lsts_set {gs : List Nat} {ps : List (List (List UInt8))} {m : Nat} (h1 : gs.length < ps.length) (h2 : gs.length < m) (g : Nat) : (lsts gs ps m).set gs.length (lst g (ps[gs.length]'h1)) = lsts (gs ++ [g]) ps m := by
  unfold lsts
  obtain ⟨q, hq⟩ : ∃ q, m - gs.length = q + 1 := ⟨m - gs.length - 1, by omega⟩
  have hl : (List.zipWith lst gs ps).length = gs.length := by rw [List.length_zipWith]; omega
  rw [hq, zip_more h1, List.set_append, if_neg (by omega), hl, Nat.sub_self, List.replicate_succ, List.set_cons_zero, List.length_append, List.length_singleton, show m - (gs.length + 1) = q by omega, List.append_assoc]
  rfl
/-- lists, each in a block of its own, from a block on, that rise -/
structure Lsts (w : World) (B : Nat) (gs : List Nat) (ps : List (List (List UInt8))) : Prop where
  row : ∀ (k g : Nat) (p : List (List UInt8)), gs[k]? = some g → ps[k]? = some p → Row w g p
  up : gs.Pairwise (· < ·)
  ge : ∀ g ∈ gs, B ≤ g ∧ g < w.heap.size
theorem Lsts.below {w w' : World} {B : Nat} {gs : List Nat} {ps : List (List (List UInt8))} (h : Lsts w B gs ps) (hb : Below w.heap.size w w') : Lsts w' B gs ps :=
  ⟨fun k g p h1 h2 => (h.row k g p h1 h2).below hb ((h.ge g (List.mem_of_getElem? h1)).2), h.up, fun g hg => ⟨(h.ge g hg).1, Nat.lt_of_lt_of_le (h.ge g hg).2 hb.size⟩⟩
/-- B4 -/
def paths (is : List Nat) (n : Nat) (val : Nat × Nat → List UInt8) : List (List (List UInt8)) := is.map fun i => (Tree.pthF n 0 n i).map val
/-- what Expand answers: lists of its own -/
def ExpP (w : World) (ps : List (List (List UInt8))) (r : Ending) (w' : World) : Prop := ∃ G gs, r = .returned (.tuple #[.slice (some ⟨G, 0, none⟩) ps.length ps.length, .int .i64 0]) ∧ RowV w' G 29 (List.zipWith lst gs ps) ∧ gs.length = ps.length ∧ Lsts w' (G + 1) gs ps ∧ w.heap.size ≤ G ∧ Below w.heap.size w w'
set_option maxRecDepth 100000 in
set_option maxHeartbeats 8000000 in
theorem expand12_ok (n : Nat) (is : List Nat) (H L : List (List UInt8)) (val : Nat × Nat → List UInt8) (V : Val is n H L val) (hb0 : BatOk (n : Int) (ix is)) (hH32 : hsB8 H = true) (hL32 : hsB8 L = true) (ai ah al : Option Addr) (ci ch cl : Nat) (w : World) (T : Tabs w) (hA : AtI w ai (ix is)) (hAh : At w ah H) (hAl : At w al L) :
    Calls Tryd.prog 11 #[bt (n : Int) (.slice ai is.length ci) (.slice ah H.length ch), .slice al L.length cl] w (ExpP w (paths is n val)) := by
  have b0 := (Below.refl w.heap.size w).alloc (Nat.le_refl _) (.cells #[.int .i64 (n : Int), .slice ai is.length ci, .slice ah H.length ch] 31)
  have s0 := BtI.new w (n : Int) (.slice ai is.length ci) (.slice ah H.length ch)
  have i1 := known12_ok n is H L val V hb0 hH32 hL32 ai ah al ci ch cl _ (T.below b0 T.lt) (hA.below b0 (Nat.le_refl _)) (hAh.below b0 (Nat.le_refl _)) (hAl.below b0 (Nat.le_refl _))
  have hlt : ∀ i ∈ is, i < n := fun i hi => by
    have := hb0.all (i : Int) (List.mem_map.2 ⟨i, hi, rfl⟩)
    omega
  have n2 := hb0.n2
  have l2 := hb0.l2
  have hil : (ix is).length = is.length := by simp [ix]
  rw [hil] at l2
  have HLT := hid hlt
  have AI := hid (fun w' (h : Below w.heap.size w w') => hA.below h (Nat.le_refl _))
  have HS := hid s0
  have B0 := hid b0
  have x0 := s0.c0
  have x1 := s0.c1
  have x2 := s0.c2
  generalize H.length = hl at *
  generalize L.length = ll at *
  have hpl : (paths is n val).length = is.length := by simp [paths]
  obtain ⟨ps, hps⟩ : ∃ ps, paths is n val = ps := ⟨_, rfl⟩
  have HPS := hid hps
  rw [hps] at hpl ⊢
  have HPL := hid hpl
  have mk := fun w' => make_lists' w' is.length (by omega)
  clear V hb0 hH32 hL32 T hA hAh hAl b0 s0 hlt hil hps hpl
  go_enter Tryd.func11, Tryd.ntmps11
  go_wp2_with (go_at_call 25; refine i1.mono ?_; rintro r w1 ⟨b, g, rfl, M1, C1, W1, hb, b1⟩; have S1 := hid (HS.out.below b1); have y0 := S1.out.c0; have y1 := S1.out.c1; have B1 := hid (B0.out.trans (b1.mono B0.out.size)); have HM := hid M1; have HC := hid C1; obtain ⟨w2, mk1, R2, B2, z2⟩ := mk w1; have S2 := hid (S1.out.below B2); have t1 := S2.out.c1; clear M1 C1 W1 b1)
  have R2 := hid (show RowV w2 w1.heap.size 29 (lsts [] ps is.length) from R2)
  have B2 := hid B2
  have hbl := HM.out.lt
  have hgl := lt_of_heap S1.out
  clear mk mk1 i1 HS B0 x0 x1 x2 y0 y1 t1 S2
  go_loopw [9, 10, 27] (fun _ _ i w' => ∃ (k : Nat) (gs : List Nat), k ≤ is.length ∧ i = .int .i64 (k : Int) ∧ Hid (gs.length = k) ∧ Hid (RowV w' w1.heap.size 29 (lsts gs ps is.length)) ∧ Hid (Lsts w' (w1.heap.size + 1) gs ps) ∧ Hid (w1.heap.size < w'.heap.size) ∧ Hid (Below w1.heap.size w1 w')) (fun _ _ i _ => is.length - (intOf i).toNat)
  case atStart => exact ⟨0, [], by omega, rfl, rfl, R2, ⟨(fun k g p h => by simp at h), List.Pairwise.nil, (fun g h => by cases h)⟩, by unfold Hid; omega, B2⟩
  case round =>
    clear R2 B2
    obtain ⟨k, gs, hk, rfl, hgk, hR, hLs, hsz, hB⟩ := hrel
    by_cases hkm : k < is.length
    · have d0 : (k : Int) < (is.length : Int) := by omega
      have hkx : k < (ix is).length := by simp [ix]; exact hkm
      have BW := hid (B1.out.trans (hB.out.mono B1.out.size))
      obtain ⟨xi, rfl, _, hci⟩ := (AI.out _ BW.out) k (ix is)[k] (List.getElem?_eq_getElem hkx)
      rw [show (ix is)[k] = ((is[k] : Nat) : Int) by simp [ix]] at hci
      have hin := HLT.out is[k] (List.getElem_mem hkm)
      have i2 := beside12_any n is[k] hin (by omega) wr
      have SB := (hB.out.block w.heap.size hgl).trans S1.out
      have u0 := BtI.c0 SB
      have hpk : k < ps.length := by rw [HPL.out]; exact hkm
      have hpe : Hid (ps[k] = (Tree.pthF n 0 n is[k]).map val) := by
        unfold Hid
        have := HPS.out
        subst this
        simp [paths]
      have hpf := hid (HC.out.path (List.getElem_mem hkm) hin)
      have hpl2 : (Tree.pthF n 0 n is[k]).length ≤ 2000000 := pthF_short12 n 0 n is[k] (Nat.le_refl _) (by omega) (by omega) (by omega)
      have hplo := hid (path_lo (n := n) (i := is[k]) (by omega))
      have i3 := fun w' (v : Value) (hb : Below wr.heap.size wr w') (ho : OwnP w' v (Tree.pthF n 0 n is[k])) => khashes12_any (val := val) ((HM.out.below hB.out hbl).below hb (Nat.lt_of_lt_of_le hbl hB.out.size)) (Tree.pthF n 0 n is[k]) v ho (fun s hs => ⟨hplo.out s hs, hpf.out s hs⟩) hpl2
      rw [show ((Tree.pthF n 0 n is[k]).map val) = ps[k] from hpe.out.symm] at i3
      have hpn : (Tree.pthF n 0 n is[k]).length = ps[k].length := by rw [hpe.out, List.length_map]
      rw [hpn] at i3
      have hll := lsts_len (gs := gs) (ps := ps) (m := is.length) (by rw [hgk.out]; omega) (by rw [hgk.out]; omega)
      have hset := fun wg => hid (lsts_set (gs := gs) (ps := ps) (m := is.length) (by rw [hgk.out]; exact hpk) (by rw [hgk.out]; exact hkm) wg)
      have hpg : ps[gs.length]'(by rw [hgk.out]; exact hpk) = ps[k] := by congr 1
      rw [hpg] at hset
      have hcl : k < (lsts gs ps is.length).length := by rw [hll]; exact hkm
      have hpk2 : Hid (ps[k]? = some ps[k]) := List.getElem?_eq_getElem hpk
      obtain ⟨pk, hpk3⟩ : ∃ pk, ps[k] = pk := ⟨_, rfl⟩
      rw [hpk3] at i3 hset hpk2
      generalize Tree.pthF n 0 n is[k] = S at *
      generalize is[k] = i at *
      have kl : (k : Int) < (is.length : Int) := d0
      have j0 : (0 : Int) ≤ (k : Int) := by omega
      have HcR := hid hR.out
      clear hpe hpf hplo SB hpl2 hpn hpg
      go_wp2_with (first
        | (go_at_call 27; refine i2.mono ?_; rintro r w3 ⟨b3, v3, rfl, o3, f3⟩; have i4 := i3 w3 v3 b3 o3; have B3 := hid b3; clear o3 f3 b3)
        | (go_at_call 26; refine i4.mono ?_; rintro r w4 ⟨rfl, R4, b4⟩; have B4 := hid (B3.out.trans (b4.mono B3.out.size)); have z4 := hid b4.size; have z3 := hid B3.out.size; have R5 := hid (hR.out.below B4.out hR.out.lt); have f2 := R5.out.free (j := k) hcl; have d2 := R5.out.cell (List.getElem?_eq_getElem hcl); have HR4 := hid R4; clear R4 b4))
      have z3 := z3.out
      have hsz := hsz.out
      refine ⟨⟨k + 1, gs ++ [w3.heap.size], by omega, by go_num, by unfold Hid; rw [List.length_append, hgk.out]; rfl, ?_, ⟨fun q g' p h1 h2 => ?_, ?_, fun g' hg' => ?_⟩, ?_, ?_⟩, by simp [intOf]; omega⟩
      · have := R5.out.set k (lst w3.heap.size pk)
        have e := (hset w3.heap.size).out
        rw [hgk.out] at e
        rw [e] at this
        exact this
      · rcases Nat.lt_or_ge q gs.length with c | c
        · rw [List.getElem?_append_left c] at h1
          have hg := hLs.out.ge g' (List.mem_of_getElem? h1)
          have r1 := (hLs.out.row q g' p h1 h2).below B4.out hg.2
          unfold Row at r1 ⊢
          rw [← r1]
          exact Below.heap_setCell _ _ _ g' (by show g' ≠ w1.heap.size; omega)
        · rw [List.getElem?_append_right c] at h1
          have hq : q = k := by
            rcases Nat.lt_or_ge (q - gs.length) 1 with c2 | c2
            · have := hgk.out; have h3 := c; omega
            · rw [List.getElem?_eq_none (by simpa using c2)] at h1; cases h1
          subst hq
          have hgq := hgk.out
          rw [show q - gs.length = 0 by omega] at h1
          simp at h1
          subst h1
          rw [hpk2.out] at h2
          cases h2
          have r1 := HR4.out
          unfold Row at r1 ⊢
          rw [← r1]
          exact Below.heap_setCell _ _ _ w3.heap.size (by show w3.heap.size ≠ w1.heap.size; omega)
      · refine List.pairwise_append.2 ⟨hLs.out.up, List.pairwise_singleton _ _, fun x hx y hy => ?_⟩
        rw [List.mem_singleton.1 hy]
        have := (hLs.out.ge x hx).2
        omega
      · rw [World.size_setCell]
        rcases List.mem_append.1 hg' with hg' | hg'
        · have := hLs.out.ge g' hg'
          have := B4.out.size
          omega
        · rw [List.mem_singleton.1 hg']
          have := HR4.out.lt
          omega
      · unfold Hid; rw [World.size_setCell]; have := B4.out.size; omega
      · exact Below.setCell (p := ⟨w1.heap.size, k, none⟩) (hB.out.trans (B4.out.mono hB.out.size)) (Nat.le_refl _) _
    · obtain rfl : k = is.length := by omega
      have d0 : ¬ (is.length : Int) < (is.length : Int) := by omega
      go_wp2
      go_ret2
      refine ⟨w1.heap.size, gs, by rw [HPL.out]; rfl, ?_, by rw [HPL.out]; exact hgk.out, hLs.out, B1.out.size, B1.out.trans (hB.out.mono B1.out.size)⟩
      have := hR.out
      unfold lsts at this
      rw [hgk.out, Nat.sub_self, List.replicate_zero, List.append_nil] at this
      exact this
end Bat
end Go.Proofs.YtmpaliocfikifaaDoor
