import Derived.Test.YtblmaokonhdjaaaGreatDoorPkFR6
namespace Go.Proofs.YtblmaokonhdjaaaGreatDoor
open Go.RowKit Go.Shelf
/-- those within a span -/
def witS (b e : Int) (K : List Sub) : List Sub := K.filter fun q => hasI b e q.1.1 q.1.2
theorem witS_len (b e : Int) (K : List Sub) : (witS b e K).length ≤ K.length := List.length_filter_le _ _
theorem witS_take_yes {b e : Int} {K : List Sub} {j : Nat} {q : Sub} (hq : K[j]? = some q) (h : hasI b e q.1.1 q.1.2 = true) : witS b e (K.take (j + 1)) = witS b e (K.take j) ++ [q] := by
  obtain ⟨hj, rfl⟩ := List.getElem?_eq_some_iff.1 hq
  unfold witS
  rw [← List.take_append_getElem hj, List.filter_append, List.filter_cons_of_pos (p := fun q : Sub => hasI b e q.1.1 q.1.2) h]; rfl
theorem witS_take_no {b e : Int} {K : List Sub} {j : Nat} {q : Sub} (hq : K[j]? = some q) (h : hasI b e q.1.1 q.1.2 = false) : witS b e (K.take (j + 1)) = witS b e (K.take j) := by
  obtain ⟨hj, rfl⟩ := List.getElem?_eq_some_iff.1 hq
  unfold witS
  rw [← List.take_append_getElem hj, List.filter_append, List.filter_cons_of_neg (by rw [h]; simp), List.filter_nil, List.append_nil]
/-- a subtree's variable -/
def SbI (w : World) (g : Nat) (x y : Int) (s : ByteArray) : Prop := w.heap[g]? = some (.cells #[.int .i64 x, .int .i64 y, .string s] 226 (0, 0))
theorem SbI.c0 {w : World} {g : Nat} {x y : Int} {s : ByteArray} (h : SbI w g x y s) : w.cell? ⟨g, 0, none⟩ = some (.int .i64 x) := by rw [cell_of_row w g 0 _ _ _ h]; rfl
theorem SbI.c1 {w : World} {g : Nat} {x y : Int} {s : ByteArray} (h : SbI w g x y s) : w.cell? ⟨g, 1, none⟩ = some (.int .i64 y) := by rw [cell_of_row w g 1 _ _ _ h]; rfl
theorem SbI.c2 {w : World} {g : Nat} {x y : Int} {s : ByteArray} (h : SbI w g x y s) : w.cell? ⟨g, 2, none⟩ = some (.string s) := by rw [cell_of_row w g 2 _ _ _ h]; rfl
theorem SbI.new (w : World) (x y : Int) (s : ByteArray) : SbI (w.alloc (.cells #[.int .i64 x, .int .i64 y, .string s] 226)) w.heap.size x y s := heap_alloc_new w _
theorem SbI.below {w w' : World} {g : Nat} {x y : Int} {s : ByteArray} (h : SbI w g x y s) (hb : Below w.heap.size w w') : SbI w' g x y s := (hb.block g (lt_of_heap h)).trans h
/-- while the list grows -/
structure Grw (w wr : World) (v : Value) (L : List Sub) : Prop where
  own : OwnS3 wr v L
  hi : ∀ k, v.ownBlock = some k → w.heap.size ≤ k
  below : Below w.heap.size w wr
theorem Grw.step {w wr w' : World} {v : Value} {L : List Sub} (h : Grw w wr v L) (hb : Below wr.heap.size wr w') : Grw w w' v L := ⟨h.own.below hb, h.hi, h.below.trans (hb.mono h.below.size)⟩
theorem Grw.push {w wr w' : World} {v v' : Value} {L L' : List Sub} (h : Grw w wr v L) (ho : OwnS3 w' v' L') (g : Grow wr w' v v') : Grw w w' v' L' := by
  have h0 := h.below.size
  refine ⟨ho, fun k hk => ?_, ?_⟩
  · rcases g.alt with q | ⟨q, _⟩
    · exact h.hi k (by rw [← q]; exact hk)
    · have := q k hk; omega
  · exact ⟨g.os.trans h.below.os, g.tape.trans h.below.tape, g.output.trans h.below.output, Nat.le_trans h0 g.size, fun k hk => (g.old k (by omega) (fun e => by have := h.hi k e; omega)).trans (h.below.block k hk)⟩
set_option maxRecDepth 100000 in
set_option maxHeartbeats 4000000 in
theorem within_any (b e : Int) (K : List Sub) (v : Value) (w : World) (h : OwnS3 w v K) (hl : K.length ≤ 1000000) :
    Calls Tryz.prog 103 #[sg b e, v] w fun r w' => ∃ v', r = .returned v' ∧ Grw w w' v' (witS b e K) := by
  obtain ⟨a, c, rfl, hc1, hc2⟩ := h.shape
  have HO := hid h
  obtain ⟨n, hn⟩ : ∃ n, Hid (K.length = n) := ⟨_, rfl⟩
  rw [hn.out] at hc1 hl HO ⊢
  have HO : Hid (OwnS3 w (.slice a n c) K) := HO
  have S0 := hid (SpI.new w b e)
  have B0 := (Below.refl _ w).alloc (Nat.le_refl _) (.cells #[.int .i64 b, .int .i64 e] 50)
  clear h
  go_enter Tryz.func103, Tryz.ntmps103
  go_wp2
  go_loopw [5, 10] (fun vi j wr => ∃ i : Nat, j = .int .i64 (i : Int) ∧ i ≤ n ∧ Hid (Grw w wr vi (witS b e (K.take i))) ∧ Hid (SpI wr w.heap.size b e) ∧ Hid (vi.ownBlock ≠ some w.heap.size)) (fun _ j _ => n - (intOf j).toNat)
  case atStart => exact ⟨0, rfl, Nat.zero_le _, ⟨OwnM.nil 3 _, fun k hk => (by cases hk), B0⟩, S0, fun hk => by cases hk⟩
  case round =>
    clear S0 B0
    obtain ⟨i, rfl, hi, hG, hS, hNe⟩ := hrel
    have hgl := hid (Nat.le_trans (witS_len b e (K.take i)) (List.length_take_le i K))
    by_cases hin : i < n
    · have b0 : (i : Int) < (n : Int) := by omega
      have b1 : (0 : Int) ≤ (i : Int) := by omega
      obtain ⟨x, y, s, hq⟩ : ∃ x y s, K[i]? = some ((x, y), s) := ⟨_, _, _, List.getElem?_eq_getElem (by have := hn.out; omega)⟩
      obtain ⟨g, c', e1, k0, k1, k2⟩ := OwnS3.at (OwnM.below HO.out hG.out.below) hq
      injection e1 with e1 e2 e3
      subst e1
      clear e2 e3
      have m0 := hid (SbI.new wr x y s)
      have bA := (Below.refl _ wr).alloc (Nat.le_refl _) (.cells #[.int .i64 x, .int .i64 y, .string s] 226)
      have S1 := hid (hS.out.below bA)
      have G1 := hid (hG.out.step bA)
      have q0 := S1.out.c0
      have q1 := S1.out.c1
      have r0 := m0.out.c0
      have r1 := m0.out.c1
      have r2 := m0.out.c2
      have k0 : wr.cell? ⟨g, i * 3, none⟩ = some (.int .i64 x) := k0
      have k1 : wr.cell? ⟨g, i * 3 + 1, none⟩ = some (.int .i64 y) := k1
      have k2 : wr.cell? ⟨g, i * 3 + 2, none⟩ = some (.string s) := k2
      clear bA hG hS
      cases hh : hasI b e x y with
      | true =>
        have i1 := fun w' => has_is b e x y true hh w'
        have hw := hid (witS_take_yes hq hh)
        clear hq hh
        obtain ⟨va, vn, vc, rfl⟩ := ownM_sl G1.out.own
        go_wp2_with (first
          | (go_at_call 152; refine (i1 _).mono ?_; rintro r w2 ⟨rfl, hw2⟩; have G2 := hid (G1.out.step hw2); have m2 := m0.out.below hw2; have t0 := m2.c0; have t1 := m2.c1; have t2 := m2.c2; have S2 := hid (S1.out.below hw2); obtain ⟨v', w3, hap, O3, G3⟩ := append_sub w2 _ _ x y s G2.out.own (by have := hgl.out; omega); have P3 := hid (G2.out.push O3 G3); have S3 := hid (S2.out.keep G3.keep hNe.out); have N3 : Hid (v'.ownBlock ≠ some w.heap.size) := (fun hk => by rcases G3.alt with q | ⟨q, _⟩; exact hNe.out (by rw [← q]; exact hk); have := q _ hk; have := lt_of_heap S2.out; omega); obtain ⟨va', vn', vc', rfl⟩ := ownM_sl O3; clear G3 O3)
          | (at_builtin; go_must (refine Lib.wpList_append_run _ rfl _ _ 175 175 rfl _ _ rfl rfl _ _ hap ?_)))
        exact ⟨⟨i + 1, by go_num, by omega, by rw [hw.out]; exact P3, S3, N3⟩, by simp [intOf]; omega⟩
      | false =>
        have i1 := fun w' => has_is b e x y false hh w'
        have hw := hid (witS_take_no hq hh)
        clear hq hh
        obtain ⟨va, vn, vc, rfl⟩ := ownM_sl G1.out.own
        go_wp2_with (go_at_call 152; refine (i1 _).mono ?_; rintro r w2 ⟨rfl, hw2⟩; have G2 := hid (G1.out.step hw2); have S2 := hid (S1.out.below hw2))
        exact ⟨⟨i + 1, by go_num, by omega, by rw [hw.out]; exact G2, S2, hNe⟩, by simp [intOf]; omega⟩
    · obtain rfl : i = n := by omega
      have b0 : ¬ (i : Int) < (i : Int) := by omega
      have e1 : K.take i = K := by rw [← hn.out, List.take_length]
      rw [e1] at hG
      clear e1
      go_wp2
      go_ret
      exact ⟨_, rfl, hG.out⟩
end Go.Proofs.YtblmaokonhdjaaaGreatDoor

namespace Go.Proofs.YtblmaokonhdjaaaGreatDoor
open Go.RowKit Go.Shelf
/-- each known span with its hash -/
def prd : List (Int × Int) → List ByteArray → List Sub
  | k :: K, h :: H => (k, h) :: prd K H
  | _, _ => []
theorem prd_len : ∀ (K : List (Int × Int)) (H : List ByteArray), K.length = H.length → (prd K H).length = K.length
  | [], [], _ => rfl
  | k :: K, h :: H, e => by rw [prd, List.length_cons, List.length_cons, prd_len K H (by simpa using e)]
  | [], _ :: _, e => by simp at e
  | _ :: _, [], e => by simp at e
theorem prd_get : ∀ {K : List (Int × Int)} {H : List ByteArray} {j : Nat} {k : Int × Int} {h : ByteArray}, K[j]? = some k → H[j]? = some h → (prd K H)[j]? = some (k, h)
  | [], _, j, k, h, hk, _ => by simp at hk
  | _ :: _, [], j, k, h, _, hh => by simp at hh
  | a :: K, b :: H, 0, k, h, hk, hh => by
    obtain rfl : a = k := by simpa using hk
    obtain rfl : b = h := by simpa using hh
    rfl
  | a :: K, b :: H, j + 1, k, h, hk, hh => by
    rw [prd]
    exact prd_get (j := j) (by simpa using hk) (by simpa using hh)
/-- pairs of whatever numbers, as cells -/
def prI (l : List (Int × Int)) : List Value := l.flatMap fun q => [.int .i64 q.1, .int .i64 q.2]
theorem prI_len (l : List (Int × Int)) : (prI l).length = l.length * 2 := by
  induction l with
  | nil => rfl
  | cons q l ih => rw [prI, List.flatMap_cons, List.length_append, ← prI, ih]; simp; omega
theorem prI_get : ∀ {l : List (Int × Int)} {j : Nat} {q : Int × Int}, l[j]? = some q → (prI l)[j * 2]? = some (.int .i64 q.1) ∧ (prI l)[j * 2 + 1]? = some (.int .i64 q.2)
  | [], j, q, h => by simp at h
  | a :: l, 0, q, h => by
    obtain rfl : a = q := by simpa using h
    exact ⟨rfl, rfl⟩
  | a :: l, j + 1, q, h => by
    have := prI_get (l := l) (j := j) (by simpa using h)
    rw [show (j + 1) * 2 = j * 2 + 2 from by omega]
    exact this
/-- pairs at an address of a row's beginning -/
def AtP (w : World) (a : Option Addr) (l : List (Int × Int)) : Prop := ∀ j q, l[j]? = some q → ∃ g, a = some ⟨g, 0, none⟩ ∧ g < w.heap.size ∧ w.cell? ⟨g, j * 2, none⟩ = some (.int .i64 q.1) ∧ w.cell? ⟨g, j * 2 + 1, none⟩ = some (.int .i64 q.2)
theorem AtP.below {w w' : World} {a : Option Addr} {l : List (Int × Int)} {B : Nat} (h : AtP w a l) (hb : Below B w w') (hB : w.heap.size ≤ B) : AtP w' a l := fun j q hq => by
  obtain ⟨g, e, h1, h2, h3⟩ := h j q hq
  exact ⟨g, e, by have := hb.size; omega, (hb.cell (p := ⟨g, j * 2, none⟩) (by show g < B; omega)).trans h2, (hb.cell (p := ⟨g, j * 2 + 1, none⟩) (by show g < B; omega)).trans h3⟩
theorem OwnP.atP {w : World} {a : Option Addr} {c n : Nat} {l : List (Nat × Nat)} (h : OwnP w (.slice a n c) l) : AtP w a (l.map fun s => ((s.1 : Int), (s.2 : Int))) := fun j q hq => by
  rw [List.getElem?_map] at hq
  cases hj : l[j]? with
  | none => rw [hj] at hq; cases hq
  | some s =>
    rw [hj] at hq
    obtain rfl : ((s.1 : Int), (s.2 : Int)) = q := by simpa using hq
    obtain ⟨g, cap, e, c0, hg⟩ := h.cell (prs_get hj).1
    obtain ⟨g', cap', e', c1, _⟩ := h.cell (prs_get hj).2
    injection e with e
    injection e' with e'
    rw [e] at e'
    injection e' with e'
    injection e' with e'
    subst e'
    exact ⟨g, e, hg, c0, c1⟩
/-- texts, as letters -/
def bas (H : List (List UInt8)) : List ByteArray := H.map fun h => ⟨h.toArray⟩
theorem cells_set3 {cs : List Value} {j : Nat} {a b c : Value} {L : List Sub} {x y : Int} {s : ByteArray} {rest : List Value} (hc : cs = sbc L ++ a :: b :: c :: rest) (hj : j = L.length * 3) : ((cs.set j (.int .i64 x)).set (j + 1) (.int .i64 y)).set (j + 2) (.string s) = sbc (L ++ [((x, y), s)]) ++ rest := by
  have hl : (sbc L).length = j := by rw [sbc_len, hj]
  subst hc
  rw [List.set_append_right _ _ (by omega), List.set_append_right _ _ (by omega), List.set_append_right _ _ (by omega), hl, Nat.sub_self, show j + 1 - j = 1 by omega, show j + 2 - j = 2 by omega, sbc_append, List.append_assoc]
  rfl
end Go.Proofs.YtblmaokonhdjaaaGreatDoor

namespace Go.Proofs.YtblmaokonhdjaaaGreatDoor
open Go.RowKit Go.Shelf
/-- a list that is filled from the left: L stands, the rest is something -/
structure Fil (w wr : World) (g n : Nat) (L : List Sub) : Prop where
  ex : ∃ rest, OwnM 3 wr (.slice (some ⟨g, 0, none⟩) n n) n (sbc L ++ rest)
  below : Below w.heap.size w wr
theorem make_subs (w : World) (n : Nat) (hn : n ≤ 4096) : ∃ w', (Instr.makeSlice 175 (.int .i64 (n : Int)) (.int .i64 (n : Int))).run Tryz.prog w = .ok (.slice (some ⟨w.heap.size, 0, none⟩) n n) w' ∧ Fil w w' w.heap.size n [] := by
  obtain ⟨i0, hi, hz0, hz1, hz2⟩ := info_parts infoSb
  have h := run_make (P := Tryz.prog) w 175 226 i0 (.agg #[.int .i64 0, .int .i64 0, .string ⟨#[]⟩]) Tryz.underlying175 hi hz0 .i64 .i64 (n : Int) (n : Int) (by omega) (by omega) (by rw [hz2]; omega) (by omega)
  rw [Int.toNat_natCast, hz1] at h
  refine ⟨_, h, ⟨(madeCells (Value.agg #[.int .i64 0, .int .i64 0, .string ⟨#[]⟩]).cells (n * 3)).toList, .inr ⟨w.heap.size, n, rfl, Nat.le_refl _, by rw [maxLen]; omega, ?_, fun j u hj => ?_, there_of_row (heap_alloc_new w _) 0 _ ?_, by rw [size_alloc]; omega⟩⟩, (Below.refl _ w).alloc (Nat.le_refl _) _⟩
  · rw [show sbc [] = [] from rfl, List.nil_append, Array.length_toList, size_madeCells]
  · rw [cell_of_row _ _ _ _ _ _ (heap_alloc_new w _), Nat.zero_add]
    rw [show sbc [] = [] from rfl, List.nil_append] at hj
    rw [← hj, Array.getElem?_toList]
  · rw [size_madeCells]; omega
theorem Fil.set {w wr : World} {g n : Nat} {L : List Sub} (h : Fil w wr g n L) (hg : w.heap.size ≤ g) (hl : L.length < n) (x y : Int) (s : ByteArray) :
    (∃ u, wr.cell? ⟨g, L.length * 3, none⟩ = some u) ∧ (∃ u, wr.cell? ⟨g, L.length * 3 + 1, none⟩ = some u) ∧ (∃ u, wr.cell? ⟨g, L.length * 3 + 2, none⟩ = some u) ∧ wr.frozen? ⟨g, L.length * 3, none⟩ = false ∧ wr.frozen? ⟨g, L.length * 3 + 1, none⟩ = false ∧ wr.frozen? ⟨g, L.length * 3 + 2, none⟩ = false ∧
    Fil w (((wr.setCell ⟨g, L.length * 3, none⟩ (.int .i64 x)).setCell ⟨g, L.length * 3 + 1, none⟩ (.int .i64 y)).setCell ⟨g, L.length * 3 + 2, none⟩ (.string s)) g n (L ++ [((x, y), s)]) := by
  obtain ⟨rest, ho⟩ := h.ex
  have hlen := ho.len
  rw [List.length_append, sbc_len] at hlen
  have fz : ∀ k, k < n * 3 → (∃ u, wr.cell? ⟨g, k, none⟩ = some u) ∧ wr.frozen? ⟨g, k, none⟩ = false := fun k hk => by
    rcases ho with ⟨e, _⟩ | ⟨g', c', e, h2, h3, h0, h4, h5, h6⟩
    · cases e
    · injection e with e1 e2 e3
      injection e1 with e1
      injection e1 with e1
      subst e1 e3
      have a2 := h5 k hk
      rw [Nat.zero_add] at a2
      refine ⟨?_, a2.2⟩
      have := a2.1
      exact Option.isSome_iff_exists.1 this
  obtain ⟨a, b, c, rest', rfl⟩ : ∃ a b c rest', rest = a :: b :: c :: rest' := by
    match rest, hlen with
    | [], h => simp at h; omega
    | [_], h => simp at h; omega
    | [_, _], h => simp at h; omega
    | a :: b :: c :: r, _ => exact ⟨a, b, c, r, rfl⟩
  have hcl : (sbc L ++ a :: b :: c :: rest').length = n * 3 := ho.len
  refine ⟨(fz _ (by omega)).1, (fz _ (by omega)).1, (fz _ (by omega)).1, (fz _ (by omega)).2, (fz _ (by omega)).2, (fz _ (by omega)).2, ⟨rest', ?_⟩, ((h.below.setCell (p := ⟨g, L.length * 3, none⟩) hg _).setCell (p := ⟨g, L.length * 3 + 1, none⟩) hg _).setCell (p := ⟨g, L.length * 3 + 2, none⟩) hg _⟩
  rw [← cells_set3 (x := x) (y := y) (s := s) rfl rfl]
  exact ((ho.setC _ _ (by omega)).setC _ _ (by rw [List.length_set]; omega)).setC _ _ (by rw [List.length_set, List.length_set]; omega)
theorem Fil.done {w wr : World} {g n : Nat} {L : List Sub} (h : Fil w wr g n L) (hl : L.length = n) : OwnS3 wr (.slice (some ⟨g, 0, none⟩) n n) L := by
  obtain ⟨rest, ho⟩ := h.ex
  have hlen := ho.len
  rw [List.length_append, sbc_len, hl] at hlen
  have : rest = [] := List.length_eq_zero_iff.1 (by omega)
  subst this
  rw [List.append_nil] at ho
  unfold OwnS3
  rw [hl]
  exact ho
theorem Fil.step {w wr w' : World} {g n : Nat} {L : List Sub} (h : Fil w wr g n L) (hb : Below wr.heap.size wr w') : Fil w w' g n L := by
  obtain ⟨rest, ho⟩ := h.ex
  exact ⟨⟨rest, ho.below hb⟩, h.below.trans (hb.mono h.below.size)⟩
set_option maxRecDepth 100000 in
set_option maxHeartbeats 4000000 in
theorem paired_any (K : List (Int × Int)) (H : List (List UInt8)) (ak ah : Option Addr) (ck ch : Nat) (w : World) (hlen : K.length = H.length) (hl : K.length ≤ 4096) (hK : AtP w ak K) (hH : At w ah H) :
    Calls Tryz.prog 104 #[.slice ak K.length ck, .slice ah H.length ch] w fun r w' => ∃ v', r = .returned v' ∧ Grw w w' v' (prd K (bas H)) := by
  rw [← hlen]
  have hpl := hid (prd_len K (bas H) (by unfold bas; rw [List.length_map]; exact hlen))
  obtain ⟨w1, hmk, F0⟩ := make_subs w K.length hl
  obtain ⟨n, hn⟩ : ∃ n, Hid (K.length = n) := ⟨_, rfl⟩
  have hHn : Hid (H.length = n) := by unfold Hid; rw [← hlen]; exact hn.out
  rw [hn.out] at hmk F0 hl hpl ⊢
  have HK := hid hK
  have HH := hid hH
  have F0 := hid F0
  clear hK hH hlen
  go_enter Tryz.func104, Tryz.ntmps104
  go_wp2
  clear hmk
  go_loopw [13] (fun j wr => ∃ i : Nat, j = .int .i64 (i : Int) ∧ i ≤ n ∧ Hid (Fil w wr w.heap.size n ((prd K (bas H)).take i))) (fun j _ => n - (intOf j).toNat)
  case atStart => exact ⟨0, rfl, Nat.zero_le _, F0⟩
  case round =>
    clear F0
    obtain ⟨i, rfl, hi, hF⟩ := hrel
    by_cases hin : i < n
    · have b0 : (i : Int) < (n : Int) := by omega
      have b1 : (0 : Int) ≤ (i : Int) := by omega
      obtain ⟨x, y, hq⟩ : ∃ x y, K[i]? = some (x, y) := ⟨_, _, List.getElem?_eq_getElem (by have := hn.out; omega)⟩
      obtain ⟨g, rfl, hg, k0, k1⟩ := (HK.out.below hF.out.below (Nat.le_refl _)) i (x, y) hq
      have HHr := HH.out.below hF.out.below (Nat.le_refl _)
      obtain ⟨z, rfl⟩ := HHr.pos (by have := hHn.out; omega)
      obtain ⟨s, hs, hcell⟩ := HHr.cell i (by have := hHn.out; omega)
      have hsi : (bas H)[i]? = some s := by
        unfold bas
        rw [List.getElem?_map, List.getElem?_eq_getElem (show i < H.length by have := hHn.out; omega)]
        simp only [Option.map_some]
        rw [← hs.out]
      have hpq := prd_get hq hsi
      have htl : Hid (((prd K (bas H)).take i).length = i) := by unfold Hid; rw [List.length_take, hpl.out]; omega
      have htk : Hid ((prd K (bas H)).take (i + 1) = (prd K (bas H)).take i ++ [((x, y), s)]) := by
        obtain ⟨hh, he⟩ := List.getElem?_eq_some_iff.1 hpq
        unfold Hid
        rw [← List.take_append_getElem hh, he]
      have bA := (Below.refl _ wr).alloc (Nat.le_refl _) (.cells #[.int .i64 x, .int .i64 y] 50)
      have S1 := SpI.new wr x y
      have hF1 := hF.out.step bA
      have hset := hF1.set (Nat.le_refl _) (by rw [htl.out]; exact hin) x y s
      rw [htl.out, ← htk.out] at hset
      obtain ⟨⟨u0, d0⟩, ⟨u1, d1⟩, ⟨u2, d2⟩, f0, f1, f2, F2⟩ := hset
      have cc := (bA.cell (p := z.add i) (World.block_lt_of_cell? wr _ hcell)).trans hcell
      have p0 := S1.c0
      have p1 := S1.c1
      have F2 := hid F2
      have k0 : wr.cell? ⟨g, i * 2, none⟩ = some (.int .i64 x) := k0
      have k1 : wr.cell? ⟨g, i * 2 + 1, none⟩ = some (.int .i64 y) := k1
      clear HHr hsi hpq hq htk htl bA S1 hF1 hs hF
      go_wp2
      clear k0 k1
      generalize wr.alloc (.cells #[.int .i64 x, .int .i64 y] 50) = WA at *
      have y0 : WA.drew.cell? ⟨wr.heap.size, 0, none⟩ = some (.int .i64 x) := p0
      have y1 : WA.drew.cell? ⟨wr.heap.size, 1, none⟩ = some (.int .i64 y) := p1
      have y2 : WA.drew.cell? (z.add i) = some (.string s) := cc
      have e0 : WA.drew.cell? ⟨w.heap.size, i * 3, none⟩ = some u0 := d0
      have e1 : WA.drew.cell? ⟨w.heap.size, i * 3 + 1, none⟩ = some u1 := d1
      have e2 : WA.drew.cell? ⟨w.heap.size, i * 3 + 2, none⟩ = some u2 := d2
      have g0 : WA.drew.frozen? ⟨w.heap.size, i * 3, none⟩ = false := f0
      have g1 : WA.drew.frozen? ⟨w.heap.size, i * 3 + 1, none⟩ = false := f1
      have g2 : WA.drew.frozen? ⟨w.heap.size, i * 3 + 2, none⟩ = false := f2
      go_region
      have F3 : Hid (Fil w ((((WA.setCell ⟨w.heap.size, i * 3, none⟩ (.int .i64 x)).setCell ⟨w.heap.size, i * 3 + 1, none⟩ (.int .i64 y)).setCell ⟨w.heap.size, i * 3 + 2, none⟩ (.string s)).drew) w.heap.size n ((prd K (bas H)).take (i + 1))) := ⟨F2.out.ex, ⟨F2.out.below.os, F2.out.below.tape, F2.out.below.output, F2.out.below.size, F2.out.below.block⟩⟩
      go_wp2
      exact ⟨⟨i + 1, by go_num, by omega, F3⟩, by simp [intOf]; omega⟩
    · obtain rfl : i = n := by omega
      have b0 : ¬ (i : Int) < (i : Int) := by omega
      have e1 : (prd K (bas H)).take i = prd K (bas H) := by rw [← hpl.out, List.take_length]
      rw [e1] at hF
      clear e1
      go_wp2
      go_ret
      exact ⟨_, rfl, hF.out.done hpl.out, fun k hk => (by cases hk; exact Nat.le_refl _), hF.out.below⟩
end Go.Proofs.YtblmaokonhdjaaaGreatDoor
