import Derived.Test.YtenklmjeeejfdaaGreatDoorPkSP13
import Derived.Test.YtenklmjeeejfdaaGreatDoorPkO2
import Derived.Test.YtenklmjeeejfdaaGreatDoorPkCM2
namespace Go.Proofs.YtenklmjeeejfdaaGreatDoor
open Go.RowKit Go.Shelf
def witS (b e : Int) (K : List Sub) : List Sub := K.filter fun q => hasI b e q.1.1 q.1.2
theorem witS_len (b e : Int) (K : List Sub) : (witS b e K).length ≤ K.length := List.length_filter_le _ _
theorem witS_take_yes {b e : Int} {K : List Sub} {j : Nat} {q : Sub} (hq : K[j]? = some q) (h : hasI b e q.1.1 q.1.2 = true) : witS b e (K.take (j + 1)) = witS b e (K.take j) ++ [q] := by
  obtain ⟨hj, rfl⟩ := List.getElem?_eq_some_iff.1 hq
  unfold witS
  rw [← List.take_append_getElem hj, List.filter_append, List.filter_cons_of_pos (p := fun q : Sub => hasI b e q.1.1 q.1.2) h]; rfl
theorem witS_take_no {b e : Int} {K : List Sub} {j : Nat} {q : Sub} (hq : K[j]? = some q) (h : hasI b e q.1.1 q.1.2 = false) : witS b e (K.take (j + 1)) = witS b e (K.take j) := by
  obtain ⟨hj, rfl⟩ := List.getElem?_eq_some_iff.1 hq
  unfold witS
  rw [← List.take_append_getElem hj, List.filter_append, List.filter_cons_of_neg (by rw [h]; simp), List.filter_nil, List.append_nil]
def SbI (w : World) (g : Nat) (x y : Int) (s : ByteArray) : Prop := w.heap[g]? = some (.cells #[.int .i64 x, .int .i64 y, .string s] 169 (0, 0))
theorem SbI.c0 {w : World} {g : Nat} {x y : Int} {s : ByteArray} (h : SbI w g x y s) : w.cell? ⟨g, 0, none⟩ = some (.int .i64 x) := by rw [cell_of_row w g 0 _ _ _ h]; rfl
theorem SbI.c1 {w : World} {g : Nat} {x y : Int} {s : ByteArray} (h : SbI w g x y s) : w.cell? ⟨g, 1, none⟩ = some (.int .i64 y) := by rw [cell_of_row w g 1 _ _ _ h]; rfl
theorem SbI.c2 {w : World} {g : Nat} {x y : Int} {s : ByteArray} (h : SbI w g x y s) : w.cell? ⟨g, 2, none⟩ = some (.string s) := by rw [cell_of_row w g 2 _ _ _ h]; rfl
theorem SbI.new (w : World) (x y : Int) (s : ByteArray) : SbI (w.alloc (.cells #[.int .i64 x, .int .i64 y, .string s] 169)) w.heap.size x y s := heap_alloc_new w _
theorem SbI.below {w w' : World} {g : Nat} {x y : Int} {s : ByteArray} (h : SbI w g x y s) (hb : Below w.heap.size w w') : SbI w' g x y s := (hb.block g (lt_of_heap h)).trans h
structure Grw (w wr : World) (v : Value) (L : List Sub) : Prop where
  own : OwnS3 wr v L
  hi : ∀ k, v.ownBlock = some k → w.heap.size ≤ k
  below : Below w.heap.size w wr
theorem Grw.step {w wr w' : World} {v : Value} {L : List Sub} (h : Grw w wr v L) (hb : Below wr.heap.size wr w') : Grw w w' v L := ⟨h.own.below hb, h.hi, h.below.trans (hb.mono h.below.size)⟩
theorem Grw.push {w wr w' : World} {v v' : Value} {L L' : List Sub} (h : Grw w wr v L) (ho : OwnS3 w' v' L') (g : Grow wr w' v v') : Grw w w' v' L' := by
  have h0 := h.below.size
  refine ⟨ho, fun k hk => ?_, ?_⟩
  · rcases g.alt with q | ⟨q, _⟩
    · exact h.hi k (by rw [← q]; exact hk)
    · have := q k hk; omega
  · exact ⟨g.os.trans h.below.os, g.tape.trans h.below.tape, g.output.trans h.below.output, Nat.le_trans h0 g.size, fun k hk => (g.old k (by omega) (fun e => by have := h.hi k e; omega)).trans (h.below.block k hk)⟩
set_option maxRecDepth 100000 in
set_option maxHeartbeats 4000000 in
theorem within_any (b e : Int) (K : List Sub) (v : Value) (w : World) (h : OwnS3 w v K) (hl : K.length ≤ 1000000) :
    Calls Tryz.prog 110 #[sg b e, v] w fun r w' => ∃ v', r = .returned v' ∧ Grw w w' v' (witS b e K) := by
  obtain ⟨a, c, rfl, hc1, hc2⟩ := h.shape
  have HO := hid h
  obtain ⟨n, hn⟩ : ∃ n, Hid (K.length = n) := ⟨_, rfl⟩
  rw [hn.out] at hc1 hl HO ⊢
  have HO : Hid (OwnS3 w (.slice a n c) K) := HO
  have S0 := hid (SpI.new w b e)
  have B0 := (Below.refl _ w).alloc (Nat.le_refl _) (.cells #[.int .i64 b, .int .i64 e] 56)
  clear h
  go_enter Tryz.func110, Tryz.ntmps110
  go_wp2
  go_loopw [5, 10] (fun vi j wr => ∃ i : Nat, j = .int .i64 (i : Int) ∧ i ≤ n ∧ Hid (Grw w wr vi (witS b e (K.take i))) ∧ Hid (SpI wr w.heap.size b e) ∧ Hid (vi.ownBlock ≠ some w.heap.size)) (fun _ j _ => n - (intOf j).toNat)
  case atStart => exact ⟨0, rfl, Nat.zero_le _, ⟨OwnM.nil 3 _, fun k hk => (by cases hk), B0⟩, S0, fun hk => by cases hk⟩
  case round =>
    clear S0 B0
    obtain ⟨i, rfl, hi, hG, hS, hNe⟩ := hrel
    have hgl := hid (Nat.le_trans (witS_len b e (K.take i)) (List.length_take_le i K))
    by_cases hin : i < n
    · have b0 : (i : Int) < (n : Int) := by omega
      have b1 : (0 : Int) ≤ (i : Int) := by omega
      obtain ⟨x, y, s, hq⟩ : ∃ x y s, K[i]? = some ((x, y), s) := ⟨_, _, _, List.getElem?_eq_getElem (by have := hn.out; omega)⟩
      obtain ⟨g, c', e1, k0, k1, k2⟩ := OwnS3.at (OwnM.below HO.out hG.out.below) hq
      injection e1 with e1 e2 e3
      subst e1
      clear e2 e3
      have m0 := hid (SbI.new wr x y s)
      have bA := (Below.refl _ wr).alloc (Nat.le_refl _) (.cells #[.int .i64 x, .int .i64 y, .string s] 169)
      have S1 := hid (hS.out.below bA)
      have G1 := hid (hG.out.step bA)
      have q0 := S1.out.c0
      have q1 := S1.out.c1
      have r0 := m0.out.c0
      have r1 := m0.out.c1
      have r2 := m0.out.c2
      have k0 : wr.cell? ⟨g, i * 3, none⟩ = some (.int .i64 x) := k0
      have k1 : wr.cell? ⟨g, i * 3 + 1, none⟩ = some (.int .i64 y) := k1
      have k2 : wr.cell? ⟨g, i * 3 + 2, none⟩ = some (.string s) := k2
      clear bA hG hS
      cases hh : hasI b e x y with
      | true =>
        have i1 := fun w' => has_is b e x y true hh w'
        have hw := hid (witS_take_yes hq hh)
        clear hq hh
        obtain ⟨va, vn, vc, rfl⟩ := ownM_sl G1.out.own
        go_wp2_with (first
          | (go_at_call 130; refine (i1 _).mono ?_; rintro r w2 ⟨rfl, hw2⟩; have G2 := hid (G1.out.step hw2); have m2 := m0.out.below hw2; have t0 := m2.c0; have t1 := m2.c1; have t2 := m2.c2; have S2 := hid (S1.out.below hw2); obtain ⟨v', w3, hap, O3, G3⟩ := append_sub w2 _ _ x y s G2.out.own (by have := hgl.out; omega); have P3 := hid (G2.out.push O3 G3); have S3 := hid (S2.out.keep G3.keep hNe.out); have N3 : Hid (v'.ownBlock ≠ some w.heap.size) := (fun hk => by rcases G3.alt with q | ⟨q, _⟩; exact hNe.out (by rw [← q]; exact hk); have := q _ hk; have := lt_of_heap S2.out; omega); obtain ⟨va', vn', vc', rfl⟩ := ownM_sl O3; clear G3 O3)
          | (at_builtin; go_must (refine Lib.wpList_append_run _ rfl _ _ 157 157 rfl _ _ rfl rfl _ _ hap ?_)))
        exact ⟨⟨i + 1, by go_num, by omega, by rw [hw.out]; exact P3, S3, N3⟩, by simp [intOf]; omega⟩
      | false =>
        have i1 := fun w' => has_is b e x y false hh w'
        have hw := hid (witS_take_no hq hh)
        clear hq hh
        obtain ⟨va, vn, vc, rfl⟩ := ownM_sl G1.out.own
        go_wp2_with (go_at_call 130; refine (i1 _).mono ?_; rintro r w2 ⟨rfl, hw2⟩; have G2 := hid (G1.out.step hw2); have S2 := hid (S1.out.below hw2))
        exact ⟨⟨i + 1, by go_num, by omega, by rw [hw.out]; exact G2, S2, hNe⟩, by simp [intOf]; omega⟩
    · obtain rfl : i = n := by omega
      have b0 : ¬ (i : Int) < (i : Int) := by omega
      have e1 : K.take i = K := by rw [← hn.out, List.take_length]
      rw [e1] at hG
      clear e1
      go_wp2
      go_ret
      exact ⟨_, rfl, hG.out⟩
end Go.Proofs.YtenklmjeeejfdaaGreatDoor

namespace Go.Proofs.YtenklmjeeejfdaaGreatDoor
open Go.RowKit Go.Shelf
def prd : List (Int × Int) → List ByteArray → List Sub
  | k :: K, h :: H => (k, h) :: prd K H
  | _, _ => []
theorem prd_len : ∀ (K : List (Int × Int)) (H : List ByteArray), K.length = H.length → (prd K H).length = K.length
  | [], [], _ => rfl
  | k :: K, h :: H, e => by rw [prd, List.length_cons, List.length_cons, prd_len K H (by simpa using e)]
  | [], _ :: _, e => by simp at e
  | _ :: _, [], e => by simp at e
theorem prd_get : ∀ {K : List (Int × Int)} {H : List ByteArray} {j : Nat} {k : Int × Int} {h : ByteArray}, K[j]? = some k → H[j]? = some h → (prd K H)[j]? = some (k, h)
  | [], _, j, k, h, hk, _ => by simp at hk
  | _ :: _, [], j, k, h, _, hh => by simp at hh
  | a :: K, b :: H, 0, k, h, hk, hh => by
    obtain rfl : a = k := by simpa using hk
    obtain rfl : b = h := by simpa using hh
    rfl
  | a :: K, b :: H, j + 1, k, h, hk, hh => by
    rw [prd]
    exact prd_get (j := j) (by simpa using hk) (by simpa using hh)
def prI (l : List (Int × Int)) : List Value := l.flatMap fun q => [.int .i64 q.1, .int .i64 q.2]
theorem prI_get : ∀ {l : List (Int × Int)} {j : Nat} {q : Int × Int}, l[j]? = some q → (prI l)[j * 2]? = some (.int .i64 q.1) ∧ (prI l)[j * 2 + 1]? = some (.int .i64 q.2)
  | [], j, q, h => by simp at h
  | a :: l, 0, q, h => by
    obtain rfl : a = q := by simpa using h
    exact ⟨rfl, rfl⟩
  | a :: l, j + 1, q, h => by
    have := prI_get (l := l) (j := j) (by simpa using h)
    rw [show (j + 1) * 2 = j * 2 + 2 from by omega]
    exact this
def AtP (w : World) (a : Option Addr) (l : List (Int × Int)) : Prop := ∀ j q, l[j]? = some q → ∃ g, a = some ⟨g, 0, none⟩ ∧ g < w.heap.size ∧ w.cell? ⟨g, j * 2, none⟩ = some (.int .i64 q.1) ∧ w.cell? ⟨g, j * 2 + 1, none⟩ = some (.int .i64 q.2)
theorem AtP.below {w w' : World} {a : Option Addr} {l : List (Int × Int)} {B : Nat} (h : AtP w a l) (hb : Below B w w') (hB : w.heap.size ≤ B) : AtP w' a l := fun j q hq => by
  obtain ⟨g, e, h1, h2, h3⟩ := h j q hq
  exact ⟨g, e, by have := hb.size; omega, (hb.cell (p := ⟨g, j * 2, none⟩) (by show g < B; omega)).trans h2, (hb.cell (p := ⟨g, j * 2 + 1, none⟩) (by show g < B; omega)).trans h3⟩
theorem OwnP.atP {w : World} {a : Option Addr} {c n : Nat} {l : List (Nat × Nat)} (h : OwnP w (.slice a n c) l) : AtP w a (l.map fun s => ((s.1 : Int), (s.2 : Int))) := fun j q hq => by
  rw [List.getElem?_map] at hq
  cases hj : l[j]? with
  | none => rw [hj] at hq; cases hq
  | some s =>
    rw [hj] at hq
    obtain rfl : ((s.1 : Int), (s.2 : Int)) = q := by simpa using hq
    obtain ⟨g, cap, e, c0, hg⟩ := h.cell (prs_get hj).1
    obtain ⟨g', cap', e', c1, _⟩ := h.cell (prs_get hj).2
    injection e with e
    injection e' with e'
    rw [e] at e'
    injection e' with e'
    injection e' with e'
    subst e'
    exact ⟨g, e, hg, c0, c1⟩
def bas (H : List (List UInt8)) : List ByteArray := H.map fun h => ⟨h.toArray⟩
theorem cells_set3 {cs : List Value} {j : Nat} {a b c : Value} {L : List Sub} {x y : Int} {s : ByteArray} {rest : List Value} (hc : cs = sbc L ++ a :: b :: c :: rest) (hj : j = L.length * 3) : ((cs.set j (.int .i64 x)).set (j + 1) (.int .i64 y)).set (j + 2) (.string s) = sbc (L ++ [((x, y), s)]) ++ rest := by
  have hl : (sbc L).length = j := by rw [sbc_len, hj]
  subst hc
  rw [List.set_append_right _ _ (by omega), List.set_append_right _ _ (by omega), List.set_append_right _ _ (by omega), hl, Nat.sub_self, show j + 1 - j = 1 by omega, show j + 2 - j = 2 by omega, sbc_append, List.append_assoc]
  rfl
end Go.Proofs.YtenklmjeeejfdaaGreatDoor

namespace Go.Proofs.YtenklmjeeejfdaaGreatDoor
open Go.RowKit Go.Shelf
structure Fil (w wr : World) (g n : Nat) (L : List Sub) : Prop where
  ex : ∃ rest, OwnM 3 wr (.slice (some ⟨g, 0, none⟩) n n) n (sbc L ++ rest)
  below : Below w.heap.size w wr
theorem make_subs (w : World) (n : Nat) (hn : n ≤ 4096) : ∃ w', (Instr.makeSlice 157 (.int .i64 (n : Int)) (.int .i64 (n : Int))).run Tryz.prog w = .ok (.slice (some ⟨w.heap.size, 0, none⟩) n n) w' ∧ Fil w w' w.heap.size n [] := by
  obtain ⟨i0, hi, hz0, hz1, hz2⟩ := info_parts infoSb
  have h := run_make (P := Tryz.prog) w 157 169 i0 (.agg #[.int .i64 0, .int .i64 0, .string ⟨#[]⟩]) Tryz.underlying157 hi hz0 .i64 .i64 (n : Int) (n : Int) (by omega) (by omega) (by rw [hz2]; omega) (by omega)
  rw [Int.toNat_natCast, hz1] at h
  refine ⟨_, h, ⟨(madeCells (Value.agg #[.int .i64 0, .int .i64 0, .string ⟨#[]⟩]).cells (n * 3)).toList, .inr ⟨w.heap.size, n, rfl, Nat.le_refl _, by rw [maxLen]; omega, ?_, fun j u hj => ?_, there_of_row (heap_alloc_new w _) 0 _ ?_, by rw [size_alloc]; omega⟩⟩, (Below.refl _ w).alloc (Nat.le_refl _) _⟩
  · rw [show sbc [] = [] from rfl, List.nil_append, Array.length_toList, size_madeCells]
  · rw [cell_of_row _ _ _ _ _ _ (heap_alloc_new w _), Nat.zero_add]
    rw [show sbc [] = [] from rfl, List.nil_append] at hj
    rw [← hj, Array.getElem?_toList]
  · rw [size_madeCells]; omega
theorem Fil.set {w wr : World} {g n : Nat} {L : List Sub} (h : Fil w wr g n L) (hg : w.heap.size ≤ g) (hl : L.length < n) (x y : Int) (s : ByteArray) :
    (∃ u, wr.cell? ⟨g, L.length * 3, none⟩ = some u) ∧ (∃ u, wr.cell? ⟨g, L.length * 3 + 1, none⟩ = some u) ∧ (∃ u, wr.cell? ⟨g, L.length * 3 + 2, none⟩ = some u) ∧ wr.frozen? ⟨g, L.length * 3, none⟩ = false ∧ wr.frozen? ⟨g, L.length * 3 + 1, none⟩ = false ∧ wr.frozen? ⟨g, L.length * 3 + 2, none⟩ = false ∧
    Fil w (((wr.setCell ⟨g, L.length * 3, none⟩ (.int .i64 x)).setCell ⟨g, L.length * 3 + 1, none⟩ (.int .i64 y)).setCell ⟨g, L.length * 3 + 2, none⟩ (.string s)) g n (L ++ [((x, y), s)]) := by
  obtain ⟨rest, ho⟩ := h.ex
  have hlen := ho.len
  rw [List.length_append, sbc_len] at hlen
  have fz : ∀ k, k < n * 3 → (∃ u, wr.cell? ⟨g, k, none⟩ = some u) ∧ wr.frozen? ⟨g, k, none⟩ = false := fun k hk => by
    rcases ho with ⟨e, _⟩ | ⟨g', c', e, h2, h3, h0, h4, h5, h6⟩
    · cases e
    · injection e with e1 e2 e3
      injection e1 with e1
      injection e1 with e1
      subst e1 e3
      have a2 := h5 k hk
      rw [Nat.zero_add] at a2
      refine ⟨?_, a2.2⟩
      have := a2.1
      exact Option.isSome_iff_exists.1 this
  obtain ⟨a, b, c, rest', rfl⟩ : ∃ a b c rest', rest = a :: b :: c :: rest' := by
    match rest, hlen with
    | [], h => simp at h; omega
    | [_], h => simp at h; omega
    | [_, _], h => simp at h; omega
    | a :: b :: c :: r, _ => exact ⟨a, b, c, r, rfl⟩
  have hcl : (sbc L ++ a :: b :: c :: rest').length = n * 3 := ho.len
  refine ⟨(fz _ (by omega)).1, (fz _ (by omega)).1, (fz _ (by omega)).1, (fz _ (by omega)).2, (fz _ (by omega)).2, (fz _ (by omega)).2, ⟨rest', ?_⟩, ((h.below.setCell (p := ⟨g, L.length * 3, none⟩) hg _).setCell (p := ⟨g, L.length * 3 + 1, none⟩) hg _).setCell (p := ⟨g, L.length * 3 + 2, none⟩) hg _⟩
  rw [← cells_set3 (x := x) (y := y) (s := s) rfl rfl]
  exact ((ho.setC _ _ (by omega)).setC _ _ (by rw [List.length_set]; omega)).setC _ _ (by rw [List.length_set, List.length_set]; omega)
theorem Fil.done {w wr : World} {g n : Nat} {L : List Sub} (h : Fil w wr g n L) (hl : L.length = n) : OwnS3 wr (.slice (some ⟨g, 0, none⟩) n n) L := by
  obtain ⟨rest, ho⟩ := h.ex
  have hlen := ho.len
  rw [List.length_append, sbc_len, hl] at hlen
  have : rest = [] := List.length_eq_zero_iff.1 (by omega)
  subst this
  rw [List.append_nil] at ho
  unfold OwnS3
  rw [hl]
  exact ho
theorem Fil.step {w wr w' : World} {g n : Nat} {L : List Sub} (h : Fil w wr g n L) (hb : Below wr.heap.size wr w') : Fil w w' g n L := by
  obtain ⟨rest, ho⟩ := h.ex
  exact ⟨⟨rest, ho.below hb⟩, h.below.trans (hb.mono h.below.size)⟩
set_option maxRecDepth 100000 in
set_option maxHeartbeats 4000000 in
theorem paired_any (K : List (Int × Int)) (H : List (List UInt8)) (ak ah : Option Addr) (ck ch : Nat) (w : World) (hlen : K.length = H.length) (hl : K.length ≤ 4096) (hK : AtP w ak K) (hH : At w ah H) :
    Calls Tryz.prog 111 #[.slice ak K.length ck, .slice ah H.length ch] w fun r w' => ∃ v', r = .returned v' ∧ Grw w w' v' (prd K (bas H)) := by
  rw [← hlen]
  have hpl := hid (prd_len K (bas H) (by unfold bas; rw [List.length_map]; exact hlen))
  obtain ⟨w1, hmk, F0⟩ := make_subs w K.length hl
  obtain ⟨n, hn⟩ : ∃ n, Hid (K.length = n) := ⟨_, rfl⟩
  have hHn : Hid (H.length = n) := by unfold Hid; rw [← hlen]; exact hn.out
  rw [hn.out] at hmk F0 hl hpl ⊢
  have HK := hid hK
  have HH := hid hH
  have F0 := hid F0
  clear hK hH hlen
  go_enter Tryz.func111, Tryz.ntmps111
  go_wp2
  clear hmk
  go_loopw [13] (fun j wr => ∃ i : Nat, j = .int .i64 (i : Int) ∧ i ≤ n ∧ Hid (Fil w wr w.heap.size n ((prd K (bas H)).take i))) (fun j _ => n - (intOf j).toNat)
  case atStart => exact ⟨0, rfl, Nat.zero_le _, F0⟩
  case round =>
    clear F0
    obtain ⟨i, rfl, hi, hF⟩ := hrel
    by_cases hin : i < n
    · have b0 : (i : Int) < (n : Int) := by omega
      have b1 : (0 : Int) ≤ (i : Int) := by omega
      obtain ⟨x, y, hq⟩ : ∃ x y, K[i]? = some (x, y) := ⟨_, _, List.getElem?_eq_getElem (by have := hn.out; omega)⟩
      obtain ⟨g, rfl, hg, k0, k1⟩ := (HK.out.below hF.out.below (Nat.le_refl _)) i (x, y) hq
      have HHr := HH.out.below hF.out.below (Nat.le_refl _)
      obtain ⟨z, rfl⟩ := HHr.pos (by have := hHn.out; omega)
      obtain ⟨s, hs, hcell⟩ := HHr.cell i (by have := hHn.out; omega)
      have hsi : (bas H)[i]? = some s := by
        unfold bas
        rw [List.getElem?_map, List.getElem?_eq_getElem (show i < H.length by have := hHn.out; omega)]
        simp only [Option.map_some]
        rw [← hs.out]
      have hpq := prd_get hq hsi
      have htl : Hid (((prd K (bas H)).take i).length = i) := by unfold Hid; rw [List.length_take, hpl.out]; omega
      have htk : Hid ((prd K (bas H)).take (i + 1) = (prd K (bas H)).take i ++ [((x, y), s)]) := by
        obtain ⟨hh, he⟩ := List.getElem?_eq_some_iff.1 hpq
        unfold Hid
        rw [← List.take_append_getElem hh, he]
      have bA := (Below.refl _ wr).alloc (Nat.le_refl _) (.cells #[.int .i64 x, .int .i64 y] 56)
      have S1 := SpI.new wr x y
      have hF1 := hF.out.step bA
      have hset := hF1.set (Nat.le_refl _) (by rw [htl.out]; exact hin) x y s
      rw [htl.out, ← htk.out] at hset
      obtain ⟨⟨u0, d0⟩, ⟨u1, d1⟩, ⟨u2, d2⟩, f0, f1, f2, F2⟩ := hset
      have cc := (bA.cell (p := z.add i) (World.block_lt_of_cell? wr _ hcell)).trans hcell
      have p0 := S1.c0
      have p1 := S1.c1
      have F2 := hid F2
      have k0 : wr.cell? ⟨g, i * 2, none⟩ = some (.int .i64 x) := k0
      have k1 : wr.cell? ⟨g, i * 2 + 1, none⟩ = some (.int .i64 y) := k1
      clear HHr hsi hpq hq htk htl bA S1 hF1 hs hF
      go_wp2
      clear k0 k1
      generalize wr.alloc (.cells #[.int .i64 x, .int .i64 y] 56) = WA at *
      have y0 : WA.drew.cell? ⟨wr.heap.size, 0, none⟩ = some (.int .i64 x) := p0
      have y1 : WA.drew.cell? ⟨wr.heap.size, 1, none⟩ = some (.int .i64 y) := p1
      have y2 : WA.drew.cell? (z.add i) = some (.string s) := cc
      have e0 : WA.drew.cell? ⟨w.heap.size, i * 3, none⟩ = some u0 := d0
      have e1 : WA.drew.cell? ⟨w.heap.size, i * 3 + 1, none⟩ = some u1 := d1
      have e2 : WA.drew.cell? ⟨w.heap.size, i * 3 + 2, none⟩ = some u2 := d2
      have g0 : WA.drew.frozen? ⟨w.heap.size, i * 3, none⟩ = false := f0
      have g1 : WA.drew.frozen? ⟨w.heap.size, i * 3 + 1, none⟩ = false := f1
      have g2 : WA.drew.frozen? ⟨w.heap.size, i * 3 + 2, none⟩ = false := f2
      go_region
      have F3 : Hid (Fil w ((((WA.setCell ⟨w.heap.size, i * 3, none⟩ (.int .i64 x)).setCell ⟨w.heap.size, i * 3 + 1, none⟩ (.int .i64 y)).setCell ⟨w.heap.size, i * 3 + 2, none⟩ (.string s)).drew) w.heap.size n ((prd K (bas H)).take (i + 1))) := ⟨F2.out.ex, ⟨F2.out.below.os, F2.out.below.tape, F2.out.below.output, F2.out.below.size, F2.out.below.block⟩⟩
      go_wp2
      exact ⟨⟨i + 1, by go_num, by omega, F3⟩, by simp [intOf]; omega⟩
    · obtain rfl : i = n := by omega
      have b0 : ¬ (i : Int) < (i : Int) := by omega
      have e1 : (prd K (bas H)).take i = prd K (bas H) := by rw [← hpl.out, List.take_length]
      rw [e1] at hF
      clear e1
      go_wp2
      go_ret
      exact ⟨_, rfl, hF.out.done hpl.out, fun k hk => (by cases hk; exact Nat.le_refl _), hF.out.below⟩
end Go.Proofs.YtenklmjeeejfdaaGreatDoor

namespace Go.Proofs.YtenklmjeeejfdaaGreatDoor
open Go.RowKit Go.Shelf
def foS : Nat → Nat → Nat → List Sub → Option ByteArray
  | 0, _, _, _ => none
  | f + 1, b, n, K => match K.find? (fun q => decide (q.1 = ((b : Int), ((b + n : Nat) : Int)))) with
    | some q => some q.2
    | none => if n < 2 then none else
      if (witS b ((b + Tree.sp n : Nat) : Int) K).length = 0 ∨ (witS ((b + Tree.sp n : Nat) : Int) ((b + n : Nat) : Int) K).length = 0 then none else
      match foS f b (Tree.sp n) (witS b ((b + Tree.sp n : Nat) : Int) K) with
      | none => none
      | some x => match foS f (b + Tree.sp n) (n - Tree.sp n) (witS ((b + Tree.sp n : Nat) : Int) ((b + n : Nat) : Int) K) with
        | none => none
        | some y => some ⟨(Tree.nd x.data.toList y.data.toList).toArray⟩
def foV : Option ByteArray → Value
  | none => .tuple #[.string ⟨#[]⟩, .bool false]
  | some s => .tuple #[.string s, .bool true]
theorem find_none {K : List Sub} {b e : Int} (h : ∀ (j : Nat) (q : Sub), K[j]? = some q → ¬ (q.1.1 = b ∧ q.1.2 = e)) : K.find? (fun q => decide (q.1 = (b, e))) = none := by
  rw [List.find?_eq_none]
  intro q hq
  obtain ⟨j, hj⟩ := List.getElem?_of_mem hq
  have := h j q hj
  simp only [decide_eq_true_eq]
  intro he
  exact this (by rw [he]; exact ⟨rfl, rfl⟩)
theorem find_at {b e : Int} : ∀ {K : List Sub} {j : Nat} {s : ByteArray}, (∀ (i : Nat) (q : Sub), i < j → K[i]? = some q → ¬ (q.1.1 = b ∧ q.1.2 = e)) → K[j]? = some ((b, e), s) → K.find? (fun q => decide (q.1 = (b, e))) = some ((b, e), s)
  | [], j, s, _, h => by simp at h
  | a :: K, 0, s, _, h => by
    obtain rfl : a = ((b, e), s) := by simpa using h
    rw [List.find?_cons_of_pos (by simp)]
  | a :: K, j + 1, s, h0, h => by
    have ha := h0 0 a (by omega) rfl
    rw [List.find?_cons_of_neg (by simp only [decide_eq_true_eq]; intro he; exact ha (by rw [he]; exact ⟨rfl, rfl⟩))]
    exact find_at (j := j) (fun i q hi hq => h0 (i + 1) q (by omega) (by simpa using hq)) (by simpa using h)
set_option maxRecDepth 100000 in
set_option maxHeartbeats 8000000 in
theorem fold8_any : ∀ (f b n : Nat) (K : List Sub) (v : Value) (w : World), n ≤ f → 1 ≤ n → b + n ≤ 1099511627776 → OwnS3 w v K → K.length ≤ 4096 → Tabs w →
    Calls Tryz.prog 109 #[sg b ((b + n : Nat) : Int), v] w fun r w' => r = .returned (foV (foS f b n K)) ∧ Below w.heap.size w w'
  | 0, b, n, K, v, w, hf, h1, _, _, _, _ => by omega
  | f + 1, b, n, K, v, w, hf, h1, hbn, h, hl, T => by
    obtain ⟨a, c, rfl, hc1, hc2⟩ := h.shape
    obtain ⟨m, hm⟩ : ∃ m, Hid (K.length = m) := ⟨_, rfl⟩
    obtain ⟨e, hbe⟩ : ∃ e, Hid (b + n = e) := ⟨_, rfl⟩
    have HO : Hid (OwnS3 w (.slice a m c) K) := by unfold Hid; rw [← hm.out]; exact h
    rw [hm.out] at hc1 hl ⊢
    rw [hbe.out] at hbn ⊢
    have S0 := hid (SpI.new w b e)
    have B0 := hid ((Below.refl _ w).alloc (Nat.le_refl _) (.cells #[.int .i64 (b : Int), .int .i64 (e : Int)] 56))
    have HT := hid T
    have hT := T.lt
    clear h T
    go_enter Tryz.func109, Tryz.ntmps109
    go_wp2
    go_loopw [19] (fun j wr => ∃ i : Nat, j = .int .i64 (i : Int) ∧ i ≤ m ∧ Hid (∀ (k : Nat) (q : Sub), k < i → K[k]? = some q → ¬ (q.1.1 = (b : Int) ∧ q.1.2 = (e : Int))) ∧ Hid (SpI wr w.heap.size b e) ∧ Hid (Below w.heap.size w wr)) (fun j _ => m - (intOf j).toNat)
    case atStart => exact ⟨0, rfl, Nat.zero_le _, fun k q hk => by omega, S0, B0⟩
    case round =>
      clear S0 B0
      obtain ⟨i, rfl, hi, hN, hS, hB⟩ := hrel
      have q0 := hS.out.c0
      have q1 := hS.out.c1
      by_cases him : i < m
      · have b0 : (i : Int) < (m : Int) := by omega
        have b1 : (0 : Int) ≤ (i : Int) := by omega
        obtain ⟨x, y, s, hq⟩ : ∃ x y s, K[i]? = some ((x, y), s) := ⟨_, _, _, List.getElem?_eq_getElem (by have := hm.out; omega)⟩
        obtain ⟨g, c', e1, k0, k1, k2⟩ := OwnS3.at (OwnM.below HO.out hB.out) hq
        injection e1 with e1 e2 e3
        subst e1
        clear e2 e3
        have m0 := SbI.new wr x y s
        have bA := (Below.refl _ wr).alloc (Nat.le_refl _) (.cells #[.int .i64 x, .int .i64 y, .string s] 169)
        have S1 := hid (hS.out.below bA)
        have B1 := hid (hB.out.trans (bA.mono hB.out.size))
        have t0 := S1.out.c0
        have t1 := S1.out.c1
        have r0 := m0.c0
        have r1 := m0.c1
        have r2 := m0.c2
        have k0 : wr.cell? ⟨g, i * 3, none⟩ = some (.int .i64 x) := k0
        have k1 : wr.cell? ⟨g, i * 3 + 1, none⟩ = some (.int .i64 y) := k1
        have k2 : wr.cell? ⟨g, i * 3 + 2, none⟩ = some (.string s) := k2
        have heq := fun w' => eq_sp x y (b : Int) (e : Int) w'
        clear bA hB hS q0 q1
        by_cases hxy : x = (b : Int) ∧ y = (e : Int)
        · obtain ⟨rfl, rfl⟩ := hxy
          have hxy' : ((b : Int) == (b : Int) && (e : Int) == (e : Int)) = true := by simp
          rw [hxy'] at heq
          have er : Hid (foS (f + 1) b n K = some s) := by
            have hf := find_at (s := s) hN.out hq
            unfold Hid
            rw [foS, hbe.out, hf]
          clear hN hq hxy'
          go_wp2
          go_ret2
          exact ⟨by rw [er.out]; rfl, B1.out⟩
        · have hxy' : (x == (b : Int) && y == (e : Int)) = false := by simpa using hxy
          rw [hxy'] at heq
          have hN' : Hid (∀ (k : Nat) (q : Sub), k < i + 1 → K[k]? = some q → ¬ (q.1.1 = (b : Int) ∧ q.1.2 = (e : Int))) := fun k q hk hkq => by
            by_cases e : k = i
            · subst e
              rw [hq] at hkq
              obtain rfl := Option.some.inj hkq
              exact hxy
            · exact hN.out k q (by omega) hkq
          clear hN hq hxy
          go_wp2
          exact ⟨⟨i + 1, by go_num, by omega, hN', S1, B1⟩, by simp [intOf]; omega⟩
      · obtain rfl : i = m := by omega
        have b0 : ¬ (i : Int) < (i : Int) := by omega
        have hfn := hid (find_none (K := K) (b := b) (e := e) fun j q hj => hN.out j q (by have := (List.getElem?_eq_some_iff.1 hj).1; have := hm.out; omega) hj)
        have i1 := slen_nat b e (by have := hbe.out; omega) hbn wr
        have hen : Hid (e - b = n) := by have := hbe.out; unfold Hid; omega
        rw [hen.out] at i1
        clear hN
        by_cases hn2 : n < 2
        · obtain rfl : n = 1 := by omega
          have er : Hid (foS (f + 1) b 1 K = none) := by
            unfold Hid
            rw [foS, hbe.out, hfn.out]
            rfl
          go_wp2_with (go_at_call 124; refine i1.mono ?_; rintro r w2 ⟨rfl, hw2⟩)
          go_ret2
          exact ⟨by rw [er.out]; rfl, hB.out.trans (hw2.mono hB.out.size)⟩
        · have hn1 : ((n : Int) == 1) = false := by simp; omega
          obtain ⟨mid, hmid⟩ : ∃ mid, Hid (b + Tree.sp n = mid) := ⟨_, rfl⟩
          have i2 := fun w' => parts_at b e mid (by have := hen.out; omega) hbn (show mid = b + Tree.sp (e - b) by rw [hen.out, hmid.out]) w'
          have s1 := Tree.sp_lt (n := n) (by omega)
          have s2 := Tree.sp_pos (n := n) (by omega)
          have hme : Hid (mid + (n - Tree.sp n) = e) := by have := hmid.out; have := hbe.out; unfold Hid; omega
          obtain ⟨KL, hKL⟩ : ∃ KL, Hid (witS b (mid : Int) K = KL) := ⟨_, rfl⟩
          obtain ⟨KR, hKR⟩ : ∃ KR, Hid (witS (mid : Int) (e : Int) K = KR) := ⟨_, rfl⟩
          have lL : Hid (KL.length ≤ i) := by unfold Hid; rw [← hKL.out, ← hm.out]; exact witS_len _ _ _
          have lR : Hid (KR.length ≤ i) := by unfold Hid; rw [← hKR.out, ← hm.out]; exact witS_len _ _ _
          have iL := fun w' (hb : Below w.heap.size w w') => within_any b (mid : Int) K _ w' (OwnM.below HO.out hb) (by have := hm.out; omega)
          have iR := fun w' (hb : Below w.heap.size w w') => within_any (mid : Int) (e : Int) K _ w' (OwnM.below HO.out hb) (by have := hm.out; omega)
          rw [hKL.out] at iL
          rw [hKR.out] at iR
          have jL := fun v' w' (ho : OwnS3 w' v' KL) (hb : Below w.heap.size w w') => fold8_any f b (Tree.sp n) KL v' w' (by omega) (by omega) (by have := hmid.out; have := hbe.out; omega) ho (by have := lL.out; omega) (HT.out.below hb hT)
          have jR := fun v' w' (ho : OwnS3 w' v' KR) (hb : Below w.heap.size w w') => fold8_any f mid (n - Tree.sp n) KR v' w' (by omega) (by omega) (by have := hme.out; omega) ho (by have := lR.out; omega) (HT.out.below hb hT)
          rw [hmid.out] at jL
          rw [hme.out] at jR
          have hfo : Hid (foS (f + 1) b n K = if KL.length = 0 ∨ KR.length = 0 then none else match foS f b (Tree.sp n) KL with
              | none => none
              | some x => match foS f mid (n - Tree.sp n) KR with
                | none => none
                | some y => some ⟨(Tree.nd x.data.toList y.data.toList).toArray⟩) := by
            unfold Hid
            rw [foS, hbe.out, hfn.out]
            simp only []
            rw [if_neg hn2, hmid.out, hKL.out, hKR.out]
          have hS1 := hid hS.out
          go_wp2_with (first
            | (go_at_call 124; refine i1.mono ?_; rintro r w2 ⟨rfl, hw2⟩; have S2 := hid (hS1.out.below hw2); have p0 := S2.out.c0; have p1 := S2.out.c1; have B2 := hid (hB.out.trans (hw2.mono hB.out.size)))
            | (go_at_call 126; refine (i2 _).mono ?_; rintro r w3 ⟨rfl, hw3⟩))
          have hb8 := ((Below.refl _ w3).alloc (Nat.le_refl _) (.cells #[.int .i64 (b : Int), .int .i64 (mid : Int)] 56)).alloc (by rw [size_alloc]; omega) (.cells #[.int .i64 (mid : Int), .int .i64 (e : Int)] 56)
          have L8 := (SpI.new w3 b mid).below ((Below.refl _ _).alloc (Nat.le_refl _) (.cells #[.int .i64 (mid : Int), .int .i64 (e : Int)] 56))
          have R8 := SpI.new (w3.alloc (.cells #[.int .i64 (b : Int), .int .i64 (mid : Int)] 56)) mid e
          rw [size_alloc] at R8
          have B8 := hid ((B2.out.trans (hw3.mono B2.out.size)).trans (hb8.mono (Nat.le_trans B2.out.size hw3.size)))
          have L8 := hid L8
          have R8 := hid R8
          clear hb8 hw3 hw2 p0 p1 B2 S2 i1 i2 hB hS hS1 q0 q1
          generalize ((w3.alloc (.cells #[.int .i64 (b : Int), .int .i64 (mid : Int)] 56)).alloc (.cells #[.int .i64 (mid : Int), .int .i64 (e : Int)] 56)) = w4 at *
          generalize w3.heap.size = gl at *
          have x0 := And.intro (And.intro L8.out.c0 L8.out.c1) (And.intro R8.out.c0 R8.out.c1)
          go_region_held3 (fun w' => (w'.cell? ⟨gl, 0, none⟩ = some (.int .i64 (b : Int)) ∧ w'.cell? ⟨gl, 1, none⟩ = some (.int .i64 (mid : Int))) ∧ w'.cell? ⟨gl + 1, 0, none⟩ = some (.int .i64 (mid : Int)) ∧ w'.cell? ⟨gl + 1, 1, none⟩ = some (.int .i64 (e : Int))) (first | exact x6 | exact x5 | exact x0) (first
            | (go_at_call 110; (with_reducible refine (iL _ B8.out.drew).mono ?_); clear iL; rintro r w5 ⟨vL, rfl, GL⟩; have b5 := drewBelow8 GL.below; have B5 := hid (B8.out.trans (b5.mono B8.out.size)); have L5 := hid (L8.out.below b5); have R5 := hid (R8.out.below b5); have OL := hid GL.own; have x5 := And.intro (And.intro L5.out.c0 L5.out.c1) (And.intro R5.out.c0 R5.out.c1); obtain ⟨aL, cL, rfl, _, _⟩ := OL.out.shape; clear GL b5)
            | (go_at_call 110; (with_reducible refine (iR _ B5.out).mono ?_); rintro r w6 ⟨vR, rfl, GR⟩; have b6 := GR.below; have B6 := hid (B5.out.trans (b6.mono B5.out.size)); have L6 := hid (L5.out.below b6); have R6 := hid (R5.out.below b6); have OR := hid GR.own; have OL6 := hid (OwnM.below OL.out b6); have x6 := And.intro (And.intro L6.out.c0 L6.out.c1) (And.intro R6.out.c0 R6.out.c1); obtain ⟨aR, cR, rfl, _, _⟩ := OR.out.shape; clear GR b6))
          have jL1 := jL _ w6 OL6.out B6.out
          have jR1 := fun w' (hb : Below w6.heap.size w6 w') => jR _ w' (OwnM.below OR.out hb) (B6.out.trans (hb.mono B6.out.size))
          have l0 := L6.out.c0
          have l1 := L6.out.c1
          have B6 := hid B6.out
          have R6 := hid R6.out
          obtain ⟨nL, hnL⟩ : ∃ nL, Hid (KL.length = nL) := ⟨_, rfl⟩
          obtain ⟨nR, hnR⟩ : ∃ nR, Hid (KR.length = nR) := ⟨_, rfl⟩
          rw [hnL.out] at jL1 ⊢
          rw [hnR.out] at jR1 ⊢
          rw [hnL.out, hnR.out] at hfo
          clear jL jR x0 x5 x6 OL6 OR OL L5 R5 L8 R8 B5 B8 iR
          by_cases hz : nL = 0 ∨ nR = 0
          · have er : Hid (foS (f + 1) b n K = none) := by unfold Hid; rw [hfo.out, if_pos hz]
            by_cases hz1 : nL = 0
            · subst hz1
              go_wp2
              go_ret2
              exact ⟨by rw [er.out]; rfl, B6.out⟩
            · obtain rfl : nR = 0 := by omega
              have hz1' : ((nL : Int) == 0) = false := by simp; omega
              go_wp2
              go_ret2
              exact ⟨by rw [er.out]; rfl, B6.out⟩
          · have hz1 : ((nL : Int) == 0) = false := by simp; omega
            have hz2 : ((nR : Int) == 0) = false := by simp; omega
            unfold Hid at hfo
            rw [if_neg hz] at hfo
            have hfo := hid hfo
            obtain ⟨o1, ho1⟩ : ∃ o1, Hid (foS f b (Tree.sp n) KL = o1) := ⟨_, rfl⟩
            obtain ⟨o2, ho2⟩ : ∃ o2, Hid (foS f mid (n - Tree.sp n) KR = o2) := ⟨_, rfl⟩
            rw [ho1.out] at jL1
            rw [ho2.out] at jR1
            unfold Hid at hfo
            rw [ho1.out, ho2.out] at hfo
            have hfo := hid hfo
            clear hz
            cases o1 with
            | none =>
              have er : Hid (foS (f + 1) b n K = none) := hfo.out
              simp only [foV] at jL1
              go_wp2_with (go_at_call 109; (with_reducible refine jL1.mono ?_); rintro r w7 ⟨rfl, hw7⟩)
              go_ret2
              exact ⟨by rw [er.out]; rfl, B6.out.trans (hw7.mono B6.out.size)⟩
            | some x =>
              simp only [foV] at jL1
              cases o2 with
              | none =>
                have er : Hid (foS (f + 1) b n K = none) := hfo.out
                simp only [foV] at jR1
                go_wp2_with (first
                  | (go_at_call 109; (with_reducible refine jL1.mono ?_); clear jL1; rintro r w7 ⟨rfl, hw7⟩; have R7 := R6.out.below hw7; have z0 := R7.c0; have z1 := R7.c1; have jR2 := jR1 w7 hw7; have B7 := hid (B6.out.trans (hw7.mono B6.out.size)))
                  | (go_at_call 109; (with_reducible refine jR2.mono ?_); rintro r w8 ⟨rfl, hw8⟩))
                go_ret2
                exact ⟨by rw [er.out]; rfl, B7.out.trans (hw8.mono B7.out.size)⟩
              | some y =>
                have er : Hid (foS (f + 1) b n K = some ⟨(Tree.nd x.data.toList y.data.toList).toArray⟩) := hfo.out
                simp only [foV] at jR1
                obtain ⟨cd, hcd⟩ : ∃ cd, Hid ((nodeOf x.data.toList y.data.toList).2 = cd) := ⟨_, rfl⟩
                obtain ⟨nv, hnv⟩ : ∃ nv : ByteArray, Hid (⟨(Tree.nd x.data.toList y.data.toList).toArray⟩ = nv) := ⟨_, rfl⟩
                have jN := fun w' (T : Tabs w') => node_any x y w' T
                rw [nodeOf_nd, hcd.out, show sv (Tree.nd x.data.toList y.data.toList) = .string nv by unfold sv; rw [hnv.out]] at jN
                unfold Hid at er
                rw [hnv.out] at er
                have er := hid er
                go_wp2_with (first
                  | (go_at_call 109; (with_reducible refine jL1.mono ?_); clear jL1; rintro r w7 ⟨rfl, hw7⟩; have R7 := R6.out.below hw7; have z0 := R7.c0; have z1 := R7.c1; have jR2 := jR1 w7 hw7; have B7 := hid (B6.out.trans (hw7.mono B6.out.size)))
                  | (go_at_call 109; (with_reducible refine jR2.mono ?_); rintro r w8 ⟨rfl, hw8⟩; have B8 := hid (B7.out.trans (hw8.mono B7.out.size)))
                  | (go_at_call 101; refine (jN _ (HT.out.below B8.out hT)).mono ?_; rintro r w9 ⟨rfl, hw9⟩))
                go_ret2
                exact ⟨by rw [er.out]; rfl, B8.out.trans (hw9.mono B8.out.size)⟩
end Go.Proofs.YtenklmjeeejfdaaGreatDoor

namespace Go.Proofs.YtenklmjeeejfdaaGreatDoor
open Go.RowKit Go.Shelf
def foldA (n : Int) (K : List (Int × Int)) (H : List (List UInt8)) (b e : Int) : ByteArray × Int :=
  if 1 ≤ n ∧ n ≤ 1099511627776 then
    if K.length = H.length ∧ K.length ≤ 4096 then
      if hsB8 H = true then
        if insB n b e = true then
          match foS (e.toNat - b.toNat) b.toNat (e.toNat - b.toNat) (witS b e (prd K (bas H))) with
          | none => (⟨#[]⟩, 82)
          | some s => (s, 0)
        else (⟨#[]⟩, 80)
      else (⟨#[]⟩, 1)
    else (⟨#[]⟩, 83)
  else (⟨#[]⟩, 81)
theorem insB_facts {n b e : Int} (h : insB n b e = true) : 1 ≤ n ∧ n ≤ 1099511627776 ∧ 0 ≤ b ∧ b < e ∧ e ≤ n := by
  unfold insB at h
  rw [Bool.and_eq_true, decide_eq_true_eq] at h
  obtain ⟨h1, h2⟩ := h
  have := Tree.insF_in _ _ _ _ _ h2 (by omega)
  omega
set_option maxRecDepth 100000 in
set_option maxHeartbeats 8000000 in
theorem foldF_any (n : Int) (K : List (Int × Int)) (H : List (List UInt8)) (b e : Int) (ak ah : Option Addr) (ck ch : Nat) (w : World) (hkl : K.length ≤ 9223372036854775807) (hhl : H.length ≤ 9223372036854775807) (hK : AtP w ak K) (hH : At w ah H) (T : Tabs w) :
    Calls Tryz.prog 89 #[.int .i64 n, .slice ak K.length ck, .slice ah H.length ch, sg b e] w fun r w' => r = .returned (.tuple #[.string (foldA n K H b e).1, .int .i64 (foldA n K H b e).2]) ∧ Below w.heap.size w w' := by
  have S0 := hid (SpI.new w b e)
  have B0 := hid ((Below.refl _ w).alloc (Nat.le_refl _) (.cells #[.int .i64 b, .int .i64 e] 56))
  have c0 := S0.out.c0
  have c1 := S0.out.c1
  obtain ⟨A, hA⟩ : ∃ A, Hid (foldA n K H b e = A) := ⟨_, rfl⟩
  rw [hA.out]
  by_cases h1 : 1 ≤ n ∧ n ≤ 1099511627776
  · have i1 := fun w' => isSize_is n true (by simpa using h1) w'
    by_cases h2 : K.length = H.length ∧ K.length ≤ 4096
    · have hH0 : At (w.alloc (.cells #[.int .i64 b, .int .i64 e] 56)) ah H := hH.below B0.out (Nat.le_refl _)
      by_cases h3 : hsB8 H = true
      · have i2 := areHashes8_is H true h3 ah ch _ hhl hH0
        have i3 := fun w' => inside_any n b e w'
        by_cases h4 : insB n b e = true
        · rw [h4] at i3
          have hf := insB_facts h4
          obtain ⟨b', hb'⟩ := Int.eq_ofNat_of_zero_le hf.2.2.1
          obtain ⟨e', he'⟩ := Int.eq_ofNat_of_zero_le (show 0 ≤ e by omega)
          have i4 := fun w' (hb : Below w.heap.size w w') => paired_any K H ak ah ck ch w' h2.1 h2.2 (hK.below hb (Nat.le_refl _)) (hH.below hb (Nat.le_refl _))
          obtain ⟨P, hP⟩ : ∃ P, Hid (prd K (bas H) = P) := ⟨_, rfl⟩
          have lP : Hid (P.length ≤ 4096) := by unfold Hid; rw [← hP.out, prd_len K (bas H) (by unfold bas; rw [List.length_map]; exact h2.1)]; exact h2.2
          rw [hP.out] at i4
          have i5 := fun v w' (ho : OwnS3 w' v P) => within_any b e P v w' ho (by have := lP.out; omega)
          obtain ⟨R, hR⟩ : ∃ R, Hid (witS b e P = R) := ⟨_, rfl⟩
          have lR : Hid (R.length ≤ 4096) := by unfold Hid; rw [← hR.out]; exact Nat.le_trans (witS_len b e P) lP.out
          rw [hR.out] at i5
          have i6 := fun v w' (ho : OwnS3 w' v R) (hb : Below w.heap.size w w') => fold8_any (e' - b') b' (e' - b') R v w' (Nat.le_refl _) (by omega) (by omega) ho lR.out (T.below hb T.lt)
          rw [show b' + (e' - b') = e' by omega, ← hb', ← he'] at i6
          have hAA : Hid (A = match foS (e' - b') b' (e' - b') R with
              | none => (⟨#[]⟩, 82)
              | some s => (s, 0)) := by
            unfold Hid
            rw [← hA.out]
            unfold foldA
            rw [if_pos h1, if_pos h2, if_pos h3, if_pos h4, hP.out, hR.out, hb', he', Int.toNat_natCast, Int.toNat_natCast]
          rw [← h2.1] at i2 i4 ⊢
          have q0 : ¬ (4096 : Int) < (K.length : Int) := by omega
          generalize K.length = m at *
          clear hK hH hH0 T h2 h3 h4 hf h1 hA
          obtain ⟨o, ho⟩ : ∃ o, Hid (foS (e' - b') b' (e' - b') R = o) := ⟨_, rfl⟩
          rw [ho.out] at i6
          unfold Hid at hAA
          rw [ho.out] at hAA
          have hAA := hid hAA
          clear hb' he'
          cases o with
          | none =>
            simp only [foV] at i6
            go_enter Tryz.func89, Tryz.ntmps89
            go_wp2_with (first
              | (go_at_call 106; refine (i1 _).mono ?_; rintro r w' ⟨rfl, rfl⟩)
              | (go_at_call 107; refine i2.mono ?_; rintro r w' ⟨rfl, rfl⟩)
              | (go_at_call 108; refine (i3 _).mono ?_; rintro r w2 ⟨rfl, hw2⟩; have S2 := hid (S0.out.below hw2); have B2 := hid (B0.out.trans (hw2.mono B0.out.size)); clear hw2))
            have x0 := And.intro S2.out.c0 S2.out.c1
            go_region_held3 (fun w' => w'.cell? ⟨w.heap.size, 0, none⟩ = some (.int .i64 b) ∧ w'.cell? ⟨w.heap.size, 1, none⟩ = some (.int .i64 e)) (first | exact x5 | exact x4 | exact x3 | exact x0) (first
              | (go_at_call 111; refine (i4 _ B2.out.drew).mono ?_; rintro r w3 ⟨v3, rfl, G3⟩; have b3 := drewBelow8 G3.below; have B3 := hid (B2.out.trans (b3.mono B2.out.size)); have S3 := hid (S2.out.below b3); have x3 := And.intro S3.out.c0 S3.out.c1; have i5' := i5 _ _ G3.own; obtain ⟨a3, m3, k3, rfl⟩ := ownM_sl G3.own; clear G3 b3)
              | (go_at_call 110; refine i5'.mono ?_; rintro r w4 ⟨v4, rfl, G4⟩; have b4 := G4.below; have B4 := hid (B3.out.trans (b4.mono B3.out.size)); have S4 := hid (S3.out.below b4); have x4 := And.intro S4.out.c0 S4.out.c1; have i6' := i6 _ _ G4.own B4.out; obtain ⟨a4, m4, k4, rfl⟩ := ownM_sl G4.own; clear G4 b4)
              | (go_at_call 109; refine i6'.mono ?_; rintro r w5 ⟨rfl, b5⟩; have B5 := hid (B4.out.trans (b5.mono B4.out.size)); have S5 := hid (S4.out.below b5); have x5 := And.intro S5.out.c0 S5.out.c1; clear b5))
            go_wp2
            go_ret2
            exact ⟨by rw [hAA.out]; rfl, B5.out⟩
          | some s =>
            simp only [foV] at i6
            go_enter Tryz.func89, Tryz.ntmps89
            go_wp2_with (first
              | (go_at_call 106; refine (i1 _).mono ?_; rintro r w' ⟨rfl, rfl⟩)
              | (go_at_call 107; refine i2.mono ?_; rintro r w' ⟨rfl, rfl⟩)
              | (go_at_call 108; refine (i3 _).mono ?_; rintro r w2 ⟨rfl, hw2⟩; have S2 := hid (S0.out.below hw2); have B2 := hid (B0.out.trans (hw2.mono B0.out.size)); clear hw2))
            have x0 := And.intro S2.out.c0 S2.out.c1
            go_region_held3 (fun w' => w'.cell? ⟨w.heap.size, 0, none⟩ = some (.int .i64 b) ∧ w'.cell? ⟨w.heap.size, 1, none⟩ = some (.int .i64 e)) (first | exact x5 | exact x4 | exact x3 | exact x0) (first
              | (go_at_call 111; refine (i4 _ B2.out.drew).mono ?_; rintro r w3 ⟨v3, rfl, G3⟩; have b3 := drewBelow8 G3.below; have B3 := hid (B2.out.trans (b3.mono B2.out.size)); have S3 := hid (S2.out.below b3); have x3 := And.intro S3.out.c0 S3.out.c1; have i5' := i5 _ _ G3.own; obtain ⟨a3, m3, k3, rfl⟩ := ownM_sl G3.own; clear G3 b3)
              | (go_at_call 110; refine i5'.mono ?_; rintro r w4 ⟨v4, rfl, G4⟩; have b4 := G4.below; have B4 := hid (B3.out.trans (b4.mono B3.out.size)); have S4 := hid (S3.out.below b4); have x4 := And.intro S4.out.c0 S4.out.c1; have i6' := i6 _ _ G4.own B4.out; obtain ⟨a4, m4, k4, rfl⟩ := ownM_sl G4.own; clear G4 b4)
              | (go_at_call 109; refine i6'.mono ?_; rintro r w5 ⟨rfl, b5⟩; have B5 := hid (B4.out.trans (b5.mono B4.out.size)); have S5 := hid (S4.out.below b5); have x5 := And.intro S5.out.c0 S5.out.c1; clear b5))
            go_wp2
            go_ret2
            exact ⟨by rw [hAA.out]; rfl, B5.out⟩
        · have h4 : insB n b e = false := by simpa using h4
          rw [h4] at i3
          have hAA : Hid (A = (⟨#[]⟩, 80)) := by
            unfold Hid
            rw [← hA.out]
            unfold foldA
            rw [if_pos h1, if_pos h2, if_pos h3, if_neg (by rw [h4]; simp)]
          rw [← h2.1] at i2 ⊢
          have q0 : ¬ (4096 : Int) < (K.length : Int) := by omega
          generalize K.length = m at *
          clear hK hH hH0 T h2 h3 h4 h1 hA
          go_enter Tryz.func89, Tryz.ntmps89
          go_wp2_with (first
            | (go_at_call 106; refine (i1 _).mono ?_; rintro r w' ⟨rfl, rfl⟩)
            | (go_at_call 107; refine i2.mono ?_; rintro r w' ⟨rfl, rfl⟩)
            | (go_at_call 108; refine (i3 _).mono ?_; rintro r w2 ⟨rfl, hw2⟩; have B2 := hid (B0.out.trans (hw2.mono B0.out.size)); clear hw2))
          go_ret2
          exact ⟨by rw [hAA.out]; rfl, B2.out⟩
      · have h3 : hsB8 H = false := by simpa using h3
        have i2 := areHashes8_is H false h3 ah ch _ hhl hH0
        have hAA : Hid (A = (⟨#[]⟩, 1)) := by
          unfold Hid
          rw [← hA.out]
          unfold foldA
          rw [if_pos h1, if_pos h2, if_neg (by rw [h3]; simp)]
        rw [← h2.1] at i2 ⊢
        have q0 : ¬ (4096 : Int) < (K.length : Int) := by omega
        generalize K.length = m at *
        clear hK hH hH0 T h2 h3 h1 hA
        go_enter Tryz.func89, Tryz.ntmps89
        go_wp2_with (first
          | (go_at_call 106; refine (i1 _).mono ?_; rintro r w' ⟨rfl, rfl⟩)
          | (go_at_call 107; refine i2.mono ?_; rintro r w' ⟨rfl, rfl⟩))
        go_ret2
        exact ⟨by rw [hAA.out]; rfl, B0.out⟩
    · have hAA : Hid (A = (⟨#[]⟩, 83)) := by
        unfold Hid
        rw [← hA.out]
        unfold foldA
        rw [if_pos h1, if_neg h2]
      clear hK hH T h1 hA
      generalize K.length = m at *
      generalize H.length = k at *
      by_cases h5 : m = k
      · subst h5
        have q0 : (4096 : Int) < (m : Int) := by omega
        clear h2
        go_enter Tryz.func89, Tryz.ntmps89
        go_wp2_with (go_at_call 106; refine (i1 _).mono ?_; rintro r w' ⟨rfl, rfl⟩)
        go_ret2
        exact ⟨by rw [hAA.out]; rfl, B0.out⟩
      · have q0 : ((m : Int) != (k : Int)) = true := by simp; omega
        have q1 : ((m : Int) == (k : Int)) = false := by simp; omega
        clear h2
        go_enter Tryz.func89, Tryz.ntmps89
        go_wp2_with (go_at_call 106; refine (i1 _).mono ?_; rintro r w' ⟨rfl, rfl⟩)
        go_ret2
        exact ⟨by rw [hAA.out]; rfl, B0.out⟩
  · have i1 := fun w' => isSize_is n false (by simpa using h1) w'
    have hAA : Hid (A = (⟨#[]⟩, 81)) := by
      unfold Hid
      rw [← hA.out]
      unfold foldA
      rw [if_neg h1]
    clear hK hH T h1 hA
    generalize K.length = m at *
    generalize H.length = k at *
    go_enter Tryz.func89, Tryz.ntmps89
    go_wp2_with (go_at_call 106; refine (i1 _).mono ?_; rintro r w' ⟨rfl, rfl⟩)
    go_ret2
    exact ⟨by rw [hAA.out]; rfl, B0.out⟩
end Go.Proofs.YtenklmjeeejfdaaGreatDoor

namespace Go.Proofs.YtenklmjeeejfdaaGreatDoor
open Go.RowKit Go.Shelf
def fdF (K : List Sub) (b e : Int) : Option Sub := K.find? (fun q => decide (q.1 = (b, e)))
def fdB : Nat → Nat → Nat → List Sub → Bool
  | 0, _, _, _ => false
  | f + 1, b, n, K => if (fdF K (b : Int) ((b + n : Nat) : Int)).isSome then true else
      if n < 2 ∨ (witS (b : Int) ((b + n : Nat) : Int) K).length = 0 then false else
      fdB f b (Tree.sp n) K && fdB f (b + Tree.sp n) (n - Tree.sp n) K
def fdH : Nat → Nat → Nat → List Sub → ByteArray
  | 0, _, _, _ => ⟨#[]⟩
  | f + 1, b, n, K => match fdF K (b : Int) ((b + n : Nat) : Int) with
    | some q => q.2
    | none => ⟨(Tree.nd (fdH f b (Tree.sp n) K).data.toList (fdH f (b + Tree.sp n) (n - Tree.sp n) K).data.toList).toArray⟩
theorem hasI_mono {b e b' e' x y : Int} (h1 : b' ≤ b) (h2 : e ≤ e') (h : hasI b e x y = true) : hasI b' e' x y = true := by
  unfold hasI at h ⊢
  simp only [decide_eq_true_eq] at h ⊢
  omega
theorem witS_wit {b e b' e' : Int} (h1 : b' ≤ b) (h2 : e ≤ e') (K : List Sub) : witS b e (witS b' e' K) = witS b e K := by
  unfold witS
  rw [List.filter_filter]
  congr 1
  funext q
  cases h : hasI b e q.1.1 q.1.2 with
  | false => simp
  | true => rw [hasI_mono h1 h2 h]; rfl
theorem fdF_wit {b e : Int} (h : b < e) (K : List Sub) : fdF (witS b e K) b e = fdF K b e := by
  unfold fdF witS
  rw [List.find?_filter]
  congr 1
  funext q
  by_cases hq : q.1 = (b, e)
  · have : hasI b e q.1.1 q.1.2 = true := by
      rw [hq]; unfold hasI; simp; omega
    simp [this]
  · simp [hq]
theorem fdF_none {b e : Int} (h : b < e) {K : List Sub} (h0 : (witS b e K).length = 0) : fdF K b e = none := by
  rw [← fdF_wit h, List.length_eq_zero_iff.1 h0]; rfl
theorem fdB_none {f b n : Nat} {K : List Sub} (hn : 1 ≤ n) (h0 : (witS (b : Int) ((b + n : Nat) : Int) K).length = 0) : fdB f b n K = false := by
  cases f with
  | zero => rfl
  | succ f => rw [fdB, fdF_none (by omega) h0, if_neg (by simp), if_pos (.inr h0)]
theorem foS_fd : ∀ (f b n : Nat) (K : List Sub), n ≤ f → 1 ≤ n → foS f b n (witS (b : Int) ((b + n : Nat) : Int) K) = if fdB f b n K = true then some (fdH f b n K) else none
  | 0, b, n, K, h, h1 => by omega
  | f + 1, b, n, K, h, h1 => by
    have e1 := fdF_wit (b := (b : Int)) (e := ((b + n : Nat) : Int)) (by omega) K
    rw [foS, fdB, fdH]
    unfold fdF at e1 ⊢
    rw [e1]
    cases hc : K.find? (fun q => decide (q.1 = ((b : Int), ((b + n : Nat) : Int)))) with
    | some q => simp
    | none =>
      simp only [Option.isSome_none, Bool.false_eq_true, if_false]
      by_cases h2 : n < 2
      · simp [h2]
      · have s1 := Tree.sp_lt (n := n) (by omega)
        have s2 := Tree.sp_pos (n := n) (by omega)
        rw [if_neg h2, witS_wit (by omega) (by omega), witS_wit (by omega) (by omega)]
        have eR : b + Tree.sp n + (n - Tree.sp n) = b + n := by omega
        have iL := foS_fd f b (Tree.sp n) K (by omega) (by omega)
        have iR := foS_fd f (b + Tree.sp n) (n - Tree.sp n) K (by omega) (by omega)
        rw [eR] at iR
        by_cases hl : (witS (b : Int) ((b + Tree.sp n : Nat) : Int) K).length = 0
        · rw [if_pos (.inl hl), fdB_none (f := f) (b := b) (n := Tree.sp n) (by omega) hl, Bool.false_and]
          by_cases hw : n < 2 ∨ (witS (b : Int) ((b + n : Nat) : Int) K).length = 0
          · rw [if_pos hw]; simp
          · rw [if_neg hw]; simp
        · by_cases hr : (witS ((b + Tree.sp n : Nat) : Int) ((b + n : Nat) : Int) K).length = 0
          · rw [if_pos (.inr hr), fdB_none (f := f) (b := b + Tree.sp n) (n := n - Tree.sp n) (by omega) (by rw [eR]; exact hr), Bool.and_false]
            by_cases hw : n < 2 ∨ (witS (b : Int) ((b + n : Nat) : Int) K).length = 0
            · rw [if_pos hw]; simp
            · rw [if_neg hw]; simp
          · have hw : ¬ (n < 2 ∨ (witS (b : Int) ((b + n : Nat) : Int) K).length = 0) := by
              rintro (hw | hw)
              · exact h2 hw
              · apply hl
                have := witS_len (b : Int) ((b + Tree.sp n : Nat) : Int) (witS (b : Int) ((b + n : Nat) : Int) K)
                rw [witS_wit (by omega) (by omega)] at this
                omega
            rw [if_neg (by omega), if_neg hw, iL, iR]
            cases hA : fdB f b (Tree.sp n) K with
            | false => simp
            | true =>
              cases hB : fdB f (b + Tree.sp n) (n - Tree.sp n) K with
              | false => simp
              | true => simp
end Go.Proofs.YtenklmjeeejfdaaGreatDoor

namespace Go.Proofs.YtenklmjeeejfdaaGreatDoor
open Go.RowKit Go.Shelf
namespace Chn
abbrev pmC (L : List (Nat × Nat)) : List (Int × Int) := L.map fun s => ((s.1 : Int), (s.2 : Int))
theorem prd_find (b e : Nat) : ∀ (K : List (Nat × Nat)) (H : List (List UInt8)), K.length = H.length → fdF (prd (pmC K) (bas H)) (b : Int) (e : Int) = if (b, e) ∈ K then some (((b : Int), (e : Int)), ⟨(Tree.hashAt K H (b, e)).toArray⟩) else none
  | [], [], _ => by simp [fdF, prd, bas]
  | [], _ :: _, h => by cases h
  | _ :: _, [], h => by cases h
  | k :: K, x :: H, h => by
    have ih := prd_find b e K H (by simpa using h)
    have e1 : prd (pmC (k :: K)) (bas (x :: H)) = (((k.1 : Int), (k.2 : Int)), ⟨x.toArray⟩) :: prd (pmC K) (bas H) := rfl
    unfold fdF at ih ⊢
    rw [e1, List.find?_cons, Tree.hashAt]
    by_cases hk : k = (b, e)
    · subst hk
      simp
    · have hne : decide ((((k.1 : Int), (k.2 : Int)), (⟨x.toArray⟩ : ByteArray)).1 = ((b : Int), (e : Int))) = false := by
        rw [decide_eq_false_iff_not]
        intro q
        apply hk
        have q1 : (k.1 : Int) = (b : Int) := congrArg Prod.fst q
        have q2 : (k.2 : Int) = (e : Int) := congrArg Prod.snd q
        exact Prod.ext (by show k.1 = b; omega) (by show k.2 = e; omega)
      rw [hne, ih, if_neg hk]
      have hm : (b, e) ∈ k :: K ↔ (b, e) ∈ K := by
        rw [List.mem_cons]
        exact ⟨fun h => h.resolve_left fun q => hk q.symm, .inr⟩
      by_cases hK : (b, e) ∈ K
      · rw [if_pos hK, if_pos (hm.2 hK)]
      · rw [if_neg hK, if_neg (fun q => hK (hm.1 q))]
theorem prd_in {K : List (Nat × Nat)} {H : List (List UInt8)} (hl : K.length = H.length) {s : Nat × Nat} (hs : s ∈ K) : ∃ x, (((s.1 : Int), (s.2 : Int)), x) ∈ prd (pmC K) (bas H) := by
  have := prd_find s.1 s.2 K H hl
  rw [if_pos hs] at this
  exact ⟨_, List.mem_of_find?_eq_some this⟩
theorem fdB_can {K : List (Nat × Nat)} {H : List (List UInt8)} (hl : K.length = H.length) : ∀ (f b n : Nat), n ≤ f → 1 ≤ n → fdB f b n (prd (pmC K) (bas H)) = Tree.canF f b n K
  | 0, b, n, h, h1 => by omega
  | f + 1, b, n, h, h1 => by
    rw [fdB, Tree.canF, prd_find b (b + n) K H hl]
    by_cases hk : (b, b + n) ∈ K
    · rw [if_pos hk, if_pos hk]; simp
    · rw [if_neg hk, if_neg hk, if_neg (by simp)]
      by_cases h2 : n < 2
      · rw [if_pos (.inl h2), if_pos h2]
      · have s1 := Tree.sp_lt (n := n) (by omega)
        have s2 := Tree.sp_pos (n := n) (by omega)
        rw [if_neg h2, fdB_can hl f b (Tree.sp n) (by omega) (by omega), fdB_can hl f (b + Tree.sp n) (n - Tree.sp n) (by omega) (by omega)]
        split
        · rename_i hw
          have hw := hw.resolve_left h2
          cases hc : Tree.canF f b (Tree.sp n) K with
          | false => rfl
          | true =>
            obtain ⟨s, hs, a1, a2, a3⟩ := Tree.can_within K f b (Tree.sp n) (by omega) (by omega) hc
            obtain ⟨x, hx⟩ := prd_in hl hs
            have : (((s.1 : Int), (s.2 : Int)), x) ∈ witS (b : Int) ((b + n : Nat) : Int) (prd (pmC K) (bas H)) := by
              unfold witS
              rw [List.mem_filter]
              refine ⟨hx, ?_⟩
              unfold hasI
              rw [decide_eq_true_eq]
              show (b : Int) ≤ (s.1 : Int) ∧ (s.1 : Int) < (s.2 : Int) ∧ (s.2 : Int) ≤ ((b + n : Nat) : Int)
              omega
            rw [List.length_eq_zero_iff.1 hw] at this
            cases this
        · rfl
theorem fdH_fld {K : List (Nat × Nat)} {H : List (List UInt8)} (hl : K.length = H.length) : ∀ (f b n : Nat), n ≤ f → 1 ≤ n → Tree.canF f b n K = true → fdH f b n (prd (pmC K) (bas H)) = ⟨(Tree.fldF f b n K H).toArray⟩
  | 0, b, n, h, h1, _ => by omega
  | f + 1, b, n, h, h1, hc => by
    rw [Tree.canF] at hc
    rw [fdH, Tree.fldF, prd_find b (b + n) K H hl]
    by_cases hk : (b, b + n) ∈ K
    · rw [if_pos hk, if_pos hk]
    · rw [if_neg hk] at hc
      by_cases h2 : n < 2
      · rw [if_pos h2] at hc; cases hc
      · have s1 := Tree.sp_lt (n := n) (by omega)
        have s2 := Tree.sp_pos (n := n) (by omega)
        rw [if_neg h2, Bool.and_eq_true] at hc
        rw [if_neg hk, if_neg hk]
        simp only []
        rw [fdH_fld hl f b (Tree.sp n) (by omega) (by omega) hc.1, fdH_fld hl f (b + Tree.sp n) (n - Tree.sp n) (by omega) (by omega) hc.2]
theorem foS_can {K : List (Nat × Nat)} {H : List (List UInt8)} (hl : K.length = H.length) {x y : Nat} (hxy : x < y) : foS (y - x) x (y - x) (witS (x : Int) (y : Int) (prd (pmC K) (bas H))) = if can K (x, y) = true then some ⟨(fld K H (x, y)).toArray⟩ else none := by
  have e := foS_fd (y - x) x (y - x) (prd (pmC K) (bas H)) (Nat.le_refl _) (by omega)
  rw [show x + (y - x) = y by omega, fdB_can hl _ _ _ (Nat.le_refl _) (by omega)] at e
  rw [e]
  unfold can fld
  dsimp only
  by_cases hc : Tree.canF (y - x) x (y - x) K = true
  · rw [if_pos hc, if_pos hc, fdH_fld hl _ _ _ (Nat.le_refl _) (by omega) hc]
  · rw [if_neg hc, if_neg hc]
theorem insB_C {n b e : Nat} (hn : 1 ≤ n) (hn2 : n ≤ 1099511627776) (h : Tree.insF n 0 n b e = true) : insB n b e = true := by
  have := Tree.insF_in _ _ _ _ _ h hn
  unfold insB
  rw [Bool.and_eq_true]
  exact ⟨decide_eq_true (by omega), by simpa using h⟩
theorem foldA_can {n : Nat} {K : List (Nat × Nat)} {H : List (List UInt8)} {x y : Nat} (hn : 1 ≤ n) (hn2 : n ≤ 1099511627776) (hi : Tree.insF n 0 n x y = true) (hl : K.length = H.length) (h4 : K.length ≤ 4096) (hh : hsB8 H = true) (hc : can K (x, y) = true) :
    foldA (n : Int) (pmC K) H (x : Int) (y : Int) = (⟨(fld K H (x, y)).toArray⟩, 0) := by
  have hin := Tree.insF_in _ _ _ _ _ hi hn
  have e := foS_can hl (x := x) (y := y) (by omega)
  rw [if_pos hc] at e
  unfold foldA
  rw [if_pos (by omega), if_pos (by simp [pmC]; omega), if_pos hh, if_pos (insB_C hn hn2 hi), Int.toNat_natCast, Int.toNat_natCast, e]
end Chn
end Go.Proofs.YtenklmjeeejfdaaGreatDoor

namespace Go.Proofs.YtenklmjeeejfdaaGreatDoor
open Go.RowKit
theorem svs_one' {L : List (List UInt8)} {v : Value} (h : v ∈ svs L) : v.oneCell' = true := by
  simp only [svs, List.mem_map] at h
  obtain ⟨n, _, rfl⟩ := h
  rfl
def Row (w : World) (H : Nat) (L : List (List UInt8)) : Prop := w.heap[H]? = some (.cells (svs L).toArray 9 (0, 0))
theorem Row.lt {w : World} {H : Nat} {L : List (List UInt8)} (h : Row w H L) : H < w.heap.size := lt_of_heap h
theorem Row.cell {w : World} {H : Nat} {L : List (List UInt8)} (h : Row w H L) {j : Nat} {p : List UInt8} (hp : L[j]? = some p) : w.cell? ⟨H, j, none⟩ = some (sv p) := by
  rw [cell_of_row _ _ _ _ _ _ h]; simp [svs, hp]
theorem Row.at {w : World} {H : Nat} {L : List (List UInt8)} (h : Row w H L) : At w (some ⟨H, 0, none⟩) L := fun j p hp => ⟨_, rfl, h.lt, by rw [Addr.add_mid, Nat.zero_add]; exact h.cell hp⟩
theorem Row.free {w : World} {H : Nat} {L : List (List UInt8)} (h : Row w H L) {j : Nat} (hj : j < L.length) : w.frozen? ⟨H, j, none⟩ = false := by
  have := (there_of_row h 0 L.length (by simp [svs])) j hj
  rw [Nat.zero_add] at this
  exact this.2
theorem Row.below {w w' : World} {H B : Nat} {L : List (List UInt8)} (h : Row w H L) (hb : Below B w w') (hB : H < B) : Row w' H L := by
  unfold Row; rw [hb.block H hB]; exact h
theorem Row.set {w : World} {H : Nat} {L : List (List UInt8)} (h : Row w H L) (k : Nat) (x : List UInt8) : Row (w.setCell ⟨H, k, none⟩ (sv x)) H (L.set k x) := by
  have e := setCell_eq_setRow w H k (svs L).toArray 9 (0, 0) (sv x) h
  unfold Row
  rw [e, setRow_heap _ _ _ _ _ _ h]
  refine congrArg (fun A => some (Obj.cells A 9 (0, 0))) ?_
  simp [svs, List.map_set]
theorem infoS1 : (Tryz.prog.info? 9).map (·.size) = some 1 := by kernel_rfl
theorem make_texts (w : World) (c : Nat) (hc : c ≤ 8796093021960) :
    (Instr.makeSlice 23 (.int .i64 (c : Int)) (.int .i64 (c : Int))).run Tryz.prog w = .ok (.slice (some ⟨w.heap.size, 0, none⟩) c c) (w.alloc (.cells (svs (List.replicate c [])).toArray 9)) := by
  obtain ⟨i0, hi, hz0, hz1, hz2⟩ := info_parts infoS
  have h := run_make (P := Tryz.prog) w 23 9 i0 (.string ⟨#[]⟩) Tryz.underlying23 hi hz0 .i64 .i64 (c : Int) (c : Int) (by omega) (by omega) (by rw [hz2]; omega) (by omega)
  rw [Int.toNat_natCast, hz1, Nat.mul_one] at h
  have e : madeCells (Value.string ⟨#[]⟩).cells c = (svs (List.replicate c [])).toArray := by
    apply Array.ext'
    rw [show (madeCells (Value.string ⟨#[]⟩).cells c).toList = List.replicate c (.string ⟨#[]⟩) from toList_madeCells_one _ _]
    simp [svs]; exact .inr rfl
  rw [e] at h
  exact h
theorem copy_texts (w : World) (H : Nat) (a : Option Addr) (cap' : Nat) (ps rest : List (List UInt8)) (hs : At w a ps) (hR : Row w H (List.replicate ps.length [] ++ rest)) (m cap : Nat) (hm : m = ps.length + rest.length) :
    ∃ w', (Builtin.copy_ #[23, 23] 3 #[.slice (some ⟨H, 0, none⟩) m cap, .slice a ps.length cap']).run Tryz.prog w = .ok (goInt ps.length) w' ∧ Row w' H (ps ++ rest) ∧ But H w w' := by
  by_cases h0 : ps.length = 0
  · obtain rfl : ps = [] := List.length_eq_zero_iff.1 h0
    exact ⟨w, run_copy_none (P := Tryz.prog) w _ _ _ 9 _ _ _ _ _ _ Tryz.underlying23 infoS1 (by simp), by simpa using hR, But.refl _ _⟩
  · obtain ⟨x, rfl, hx, _⟩ := hs 0 _ (List.getElem?_eq_getElem (by omega))
    have h := run_copy_row (P := Tryz.prog) w 23 23 3 9 H 0 m cap x ps.length cap' _ 9 (svs ps) Tryz.underlying23 infoS1 hR
      (by rw [svs_length]; exact (Nat.min_eq_left (by omega)).symm) (fun j u hu => by
        simp only [svs, List.getElem?_map, Option.map_eq_some_iff] at hu
        obtain ⟨p, hp, rfl⟩ := hu
        obtain ⟨y, hy, _, hc⟩ := hs j p hp
        cases hy
        exact hc) (by simp [svs]) (fun u hu => svs_one' hu)
    refine ⟨_, h.trans (by rw [svs_length]), ?_, (But.refl _ _).setRow _⟩
    unfold Row
    rw [setRow_heap _ _ _ _ _ _ hR]
    refine congrArg (fun A => some (Obj.cells A 9 (0, 0))) ?_
    simp [svs]
end Go.Proofs.YtenklmjeeejfdaaGreatDoor
