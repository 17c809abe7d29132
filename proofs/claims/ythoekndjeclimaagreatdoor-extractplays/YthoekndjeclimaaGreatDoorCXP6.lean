import Derived.Test.YthoekndjeclimaaGreatDoorCXP3
import Derived.Test.YthoekndjeclimaaGreatDoorCI22
import Derived.Test.YthoekndjeclimaaGreatDoorCFS1
import Derived.Test.YthoekndjeclimaaGreatDoorCR6
import Derived.Laws.StructEq
namespace Go.Proofs.YthoekndjeclimaaGreatDoor
open Go.RowKit
/-- the cells of a list of steps -/
def stcs (l : List (Nat × Nat × Bool)) : List Value := l.flatMap fun q => [.int .i64 (q.1 : Int), .int .i64 (q.2.1 : Int), .bool q.2.2]
theorem stcs_append (l m : List (Nat × Nat × Bool)) : stcs (l ++ m) = stcs l ++ stcs m := List.flatMap_append
theorem stcs_get : ∀ {l : List (Nat × Nat × Bool)} {j : Nat} {q : Nat × Nat × Bool}, l[j]? = some q → (stcs l)[j * 3]? = some (.int .i64 (q.1 : Int)) ∧ (stcs l)[j * 3 + 1]? = some (.int .i64 (q.2.1 : Int)) ∧ (stcs l)[j * 3 + 2]? = some (.bool q.2.2)
  | [], j, q, h => by simp at h
  | a :: l, 0, q, h => by
    obtain rfl : a = q := by simpa using h
    exact ⟨rfl, rfl, rfl⟩
  | a :: l, j + 1, q, h => by
    have := stcs_get (l := l) (j := j) (by simpa using h)
    rw [show (j + 1) * 3 = j * 3 + 3 from by omega]
    exact this
/-- a list of steps that is one's own, new from B on -/
def Sts (w : World) (B : Nat) (v : Value) (l : List (Nat × Nat × Bool)) : Prop := OwnM 3 w v l.length (stcs l) ∧ ∀ k, v.ownBlock = some k → B ≤ k
theorem Sts.below {w w' : World} {B : Nat} {v : Value} {l : List (Nat × Nat × Bool)} (h : Sts w B v l) (hb : Below w.heap.size w w') : Sts w' B v l := ⟨h.1.below hb, h.2⟩
theorem Sts.at {w : World} {B : Nat} {v : Value} {l : List (Nat × Nat × Bool)} (h : Sts w B v l) {j : Nat} {q : Nat × Nat × Bool} (hq : l[j]? = some q) : ∃ g cap, v = .slice (some ⟨g, 0, none⟩) l.length cap ∧ w.cell? ⟨g, j * 3, none⟩ = some (.int .i64 (q.1 : Int)) ∧ w.cell? ⟨g, j * 3 + 1, none⟩ = some (.int .i64 (q.2.1 : Int)) ∧ w.cell? ⟨g, j * 3 + 2, none⟩ = some (.bool q.2.2) ∧ g < w.heap.size := by
  obtain ⟨a1, a2, a3⟩ := stcs_get hq
  obtain ⟨g, cap, e, c1, c2⟩ := h.1.cell a1
  obtain ⟨g', cap', e', d1, _⟩ := h.1.cell a2
  obtain ⟨g'', cap'', e'', f1, _⟩ := h.1.cell a3
  subst e
  cases e'; cases e''
  exact ⟨g, cap, rfl, c1, d1, f1, c2⟩
theorem infoSt3 : (Tryz.prog.info? 63).map (fun i => (i.zero, i.size, i.bytes)) = some (some (.agg #[.int .i64 0, .int .i64 0, .bool false]), 3, 24) := by kernel_rfl
theorem append_step (w : World) (v : Value) (l : List (Nat × Nat × Bool)) (q : Nat × Nat × Bool) (B : Nat) (h : Sts w B v l) (hB : B ≤ w.heap.size) (hl : l.length ≤ 2000000) :
    ∃ v' w', (Builtin.append_ #[50, 50] 50 #[v, .slice (some ⟨w.heap.size, 0, none⟩) 1 1]).run Tryz.prog (w.alloc (.cells #[.int .i64 (q.1 : Int), .int .i64 (q.2.1 : Int), .bool q.2.2] 63)) = .ok v' w' ∧ Sts w' B v' (l ++ [q]) ∧ Below B w w' := by
  obtain ⟨v', w', h1, h2, h3⟩ := append_oneM 50 63 (.agg #[.int .i64 0, .int .i64 0, .bool false]) 24 (by omega) Tryz.underlying50 infoSt3 rfl w v l.length (stcs l) [.int .i64 (q.1 : Int), .int .i64 (q.2.1 : Int), .bool q.2.2] rfl (fun u hu => by
    simp only [List.mem_cons, List.not_mem_nil, or_false] at hu
    rcases hu with rfl | rfl | rfl <;> rfl) h.1 hl
  refine ⟨v', w', h1, ⟨?_, fun k hk => ?_⟩, ⟨h3.os, h3.tape, h3.output, h3.size, fun k hk => h3.old k (by omega) fun e => ?_⟩⟩
  · rw [stcs_append, List.length_append]; exact h2
  · rcases h3.alt with e | ⟨e, _⟩
    · exact h.2 k (e ▸ hk)
    · exact Nat.le_trans hB (e k hk)
  · have := h.2 k e; omega
theorem r6sum_at (t : List UInt8) (ht : t.length ≤ 1000) {D : List UInt8} (hD : Hid (Sha.sha t = D)) (w : World) : Calls Tryz.prog 54 #[.string ⟨t.toArray⟩] w fun e w' => e = .returned (.string ⟨D.toArray⟩) ∧ Below w.heap.size w w' := by
  have := rsum_at ⟨t.toArray⟩ D (by simp [ByteArray.size]; omega) (by rw [Hid]; simpa using hD.out) w
  simpa [sv] using this
set_option maxRecDepth 100000 in
set_option maxHeartbeats 4000000 in
theorem r6texts_any (L : List (Nat × Nat × Bool)) (r0 : List UInt8) (H : List (List UInt8)) (vl : Value) (B : Nat) (d : Option Addr) (cd : Nat) (w : World) (hL : Sts w B vl L) (hd : At w d H) (hlen : H.length = L.length) (hm : L.length ≤ 1000000) (h32 : r0.length = 32) (hH : Tree.Hs H) :
    Calls Tryz.prog 29 #[vl, .string ⟨r0.toArray⟩, .slice d H.length cd] w (Out w (Tree.txs r0 (L.map (·.2.2)) H)) := by
  obtain ⟨sa, sc, rfl, _, _⟩ := hL.1.shape
  have HL := hid hL
  have HD := hid hd
  have HH := hid hH
  have HN := hid hlen
  rw [hlen]
  obtain ⟨n, hn⟩ : ∃ n, Hid (L.length = n) := ⟨_, rfl⟩
  rw [hn.out]
  rw [hn.out] at hm
  obtain ⟨X, hX⟩ : ∃ X, Hid (Tree.txs r0 (L.map (·.2.2)) H = X) := ⟨_, rfl⟩
  rw [hX.out]
  clear hL hd hH hlen
  go_enter Tryz.func29, Tryz.ntmps29
  go_wp2
  go_loopw [7, 8, 9] (fun ov rv i w' => ∃ (k : Nat) (R : List UInt8), k ≤ n ∧ i = .int .i64 (k : Int) ∧ rv = .string ⟨R.toArray⟩ ∧ R.length = 32 ∧ Hid (Tree.stw r0 ((L.map (·.2.2)).take k) (H.take k) = R) ∧ Hid (Own w' w.heap.size ov (svs (Tree.txs r0 ((L.map (·.2.2)).take k) (H.take k)))) ∧ Hid (Below w.heap.size w w')) (fun _ _ i _ => n - (intOf i).toNat)
  case atStart => exact ⟨0, r0, by omega, rfl, rfl, h32, by first | rfl | (unfold Hid; simp [Tree.stw]), by unfold Hid; simp [Tree.txs, svs]; exact Own.nil _ _, Below.refl _ _⟩
  case round =>
    obtain ⟨k, R, hk, rfl, rfl, hR, hS, hO, hB⟩ := hrel
    by_cases hkn : k < n
    · have kL : k < L.length := by rw [hn.out]; omega
      have kH : k < H.length := by rw [HN.out]; omega
      have b0 : (k : Int) < (n : Int) := by omega
      obtain ⟨g, cap, hg, c0, c1, c2, gl⟩ := HL.out.at (List.getElem?_eq_getElem kL)
      obtain ⟨rfl, rfl⟩ : sa = some ⟨g, 0, none⟩ ∧ sc = cap := by injection hg with e1 e2 e3; exact ⟨e1, e3⟩
      have c2 := (hB.out.cell (p := ⟨g, k * 3 + 2, none⟩) gl).trans c2
      obtain ⟨x, rfl, xb, hx⟩ := HD.out k H[k] (List.getElem?_eq_getElem kH)
      rw [← hB.out.cell (p := x.add k) (by rw [addr_block]; exact xb)] at hx
      rw [svS] at hx
      have h2 : (H[k]).length = 32 := HH.out _ (List.getElem_mem kH)
      obtain ⟨q1, q2⟩ := Tree.txs_step r0 ((L.map (·.2.2)).take k) (H.take k) L[k].2.2 H[k] (by simp; omega)
      have e1 : (L.map (·.2.2)).take k ++ [L[k].2.2] = (L.map (·.2.2)).take (k + 1) := by
        rw [List.take_succ_eq_append_getElem (by simpa using kL)]; simp
      have e2 : H.take k ++ [H[k]] = H.take (k + 1) := (List.take_succ_eq_append_getElem kH).symm
      rw [e1, e2, hS.out] at q1 q2
      have hol : (Tree.txs r0 ((L.map (·.2.2)).take k) (H.take k)).length ≤ 1000000 := by
        rw [Tree.txs_length _ _ _ (by simp; omega)]; simp; omega
      generalize L[k].2.2 = dd at *
      generalize H[k] = h at *
      clear e1 e2 c0 c1 gl xb hg
      cases dd with
      | false =>
        obtain ⟨t, ht⟩ : ∃ t, Hid (Tree.nt R h = t) := ⟨_, rfl⟩
        have lt : t.length = 65 := by rw [← ht.out]; exact Tree.nt_len hR h2
        rw [show Tree.txt false R h = t from ht.out] at q1 q2
        obtain ⟨D, hD⟩ : ∃ D, Hid (Sha.sha t = D) := ⟨_, rfl⟩
        have lD : D.length = 32 := by rw [← hD.out]; exact Sha.sha_length _
        rw [hD.out] at q2
        have i1 := r6text_any R h ht (by omega) (by omega) wr
        have i2 := fun w' : World => r6sum_at t (by omega) hD w'
        obtain ⟨v3, w3, hap, hO3, hb3⟩ := append_text wr w.heap.size _ _ t hO.out (by omega) hB.out.size
        rw [← q1] at hO3
        have HO3 := hid hO3
        have HB3 := hid (hB.out.trans hb3)
        have Q2 := hid q2
        rw [svS] at hap
        clear hO3 hb3 hB hO q1 q2 hS
        go_wp2_with (first
          | (go_at_call 35; refine i1.mono ?_; rintro e w2 ⟨rfl, hw2⟩; have hw2 := hw2.symm; subst hw2)
          | (at_builtin; go_must (refine Lib.wpList_append_run _ rfl _ _ 22 22 rfl _ _ rfl rfl _ _ hap ?_))
          | (go_at_call 54; refine (i2 _).mono ?_; rintro e w4 ⟨rfl, hw4⟩))
        have HO4 := hid (HO3.out.below hw4 (Nat.le_refl _))
        have HB4 := hid (HB3.out.trans (hw4.mono HB3.out.size))
        exact ⟨⟨k + 1, D, by omega, by go_num, rfl, lD, Q2, HO4, HB4⟩, by simp [intOf]; omega⟩
      | true =>
        obtain ⟨t, ht⟩ : ∃ t, Hid (Tree.nt h R = t) := ⟨_, rfl⟩
        have lt : t.length = 65 := by rw [← ht.out]; exact Tree.nt_len h2 hR
        rw [show Tree.txt true R h = t from ht.out] at q1 q2
        obtain ⟨D, hD⟩ : ∃ D, Hid (Sha.sha t = D) := ⟨_, rfl⟩
        have lD : D.length = 32 := by rw [← hD.out]; exact Sha.sha_length _
        rw [hD.out] at q2
        obtain ⟨t0, ht0⟩ : ∃ t, Hid (Tree.nt R h = t) := ⟨_, rfl⟩
        have i0 := r6text_any R h ht0 (by omega) (by omega) wr
        have i1 := r6text_any h R ht (by omega) (by omega) wr
        have i2 := fun w' : World => r6sum_at t (by omega) hD w'
        obtain ⟨v3, w3, hap, hO3, hb3⟩ := append_text wr w.heap.size _ _ t hO.out (by omega) hB.out.size
        rw [← q1] at hO3
        have HO3 := hid hO3
        have HB3 := hid (hB.out.trans hb3)
        have Q2 := hid q2
        rw [svS] at hap
        clear hO3 hb3 hB hO q1 q2 hS
        go_wp2_with (first
          | (go_at_call 35; (with_reducible refine i0.mono ?_); rintro e w2 ⟨rfl, hw2⟩; have hw2 := hw2.symm; subst hw2)
          | (go_at_call 35; (with_reducible refine i1.mono ?_); rintro e w2 ⟨rfl, hw2⟩; have hw2 := hw2.symm; subst hw2)
          | (at_builtin; go_must (refine Lib.wpList_append_run _ rfl _ _ 22 22 rfl _ _ rfl rfl _ _ hap ?_))
          | (go_at_call 54; refine (i2 _).mono ?_; rintro e w4 ⟨rfl, hw4⟩))
        have HO4 := hid (HO3.out.below hw4 (Nat.le_refl _))
        have HB4 := hid (HB3.out.trans (hw4.mono HB3.out.size))
        exact ⟨⟨k + 1, D, by omega, by go_num, rfl, lD, Q2, HO4, HB4⟩, by simp [intOf]; omega⟩
    · obtain rfl : k = n := by omega
      have b0 : ¬ (k : Int) < (k : Int) := by omega
      have eX : Hid (Tree.txs r0 ((L.map (·.2.2)).take k) (H.take k) = X) := by
        rw [Hid, ← hX.out, List.take_of_length_le (by simp [hn.out]), List.take_of_length_le (by rw [HN.out, hn.out]; omega)]
      rw [eX.out] at hO
      clear hS eX
      go_wp2
      go_ret
      exact ⟨_, rfl, hO.out, hB.out⟩
end Go.Proofs.YthoekndjeclimaaGreatDoor

namespace Go.Proofs.YthoekndjeclimaaGreatDoor
open Go.RowKit
theorem sp6U : Tryz.prog.underlying 53 = some (.struct (Tryz.prog.fieldsOf 53)) := by kernel_rfl
theorem sp6P : Tryz.prog.stoodInHeld 53 = false := by kernel_rfl
theorem sp6F : (Tryz.prog.fieldsOf 53).toList.map (fun f => (f.name, f.type, f.offset)) = [("Begin", 3, 0), ("End", 3, 1)] := by kernel_rfl
theorem two_fields6 {fs : List Field} {a b : String × TypeId × Nat} (h : fs.map (fun f => (f.name, f.type, f.offset)) = [a, b]) : ∃ f g, fs = [f, g] ∧ f.name = a.1 ∧ f.type = a.2.1 ∧ f.offset = a.2.2 ∧ g.name = b.1 ∧ g.type = b.2.1 ∧ g.offset = b.2.2 := by
  match fs, h with
  | [f, g], h =>
    simp only [List.map_cons, List.map_nil, List.cons.injEq, and_true] at h
    obtain ⟨h1, h2⟩ := h
    exact ⟨f, g, rfl, by rw [← h1], by rw [← h1], by rw [← h1], by rw [← h2], by rw [← h2], by rw [← h2]⟩
theorem part06 (a b : Value) (w : World) : (part 3 #[a, b] 0).run Tryz.prog w = .ok a w := by kernel_rfl
theorem part16 (a b : Value) (w : World) : (part 3 #[a, b] 1).run Tryz.prog w = .ok b w := by kernel_rfl
theorem neq_sp6 (p f q e : Int) (w : World) : (binOp .neq 53 (.agg #[.int .i64 p, .int .i64 f]) (.agg #[.int .i64 q, .int .i64 e])).run Tryz.prog w = .ok (.bool (!(p == q && f == e))) w := by
  rw [run_neq_struct, run_equalIn_agg w 9999 _ _ _ sp6U sp6P]
  obtain ⟨f1, f2, hf, a1, a2, a3, b1, b2, b3⟩ := two_fields6 sp6F
  rw [hf]
  simp only [Op.eqFields, a1, a2, a3, b1, b2, b3]
  simp only [Sem.run_ite, Sem.run_bind, part06, part16, Result.andThen_ok, run_equalIn_int w 9998 3 .i64 .i64 _ _ Tryz.underlying3]
  generalize (p == q) = u
  generalize (f == e) = v
  cases u <;> cases v <;> simp
theorem size6Sp : (Tryz.prog.info? 53).map (·.size) = some 2 := by kernel_rfl
/-- while the steps go down -/
structure Dwn (w : World) (fb fe b n : Nat) (v : Value) (l : List (Nat × Nat × Bool)) (w' : World) : Prop where
  r3 : w'.heap[w.heap.size]? = some (.cells #[.int .i64 (fb : Int), .int .i64 (fe : Int)] 53 (0, 0))
  r6 : w'.heap[w.heap.size + 1]? = some (.cells #[.int .i64 (b : Int), .int .i64 ((b + n : Nat) : Int)] 53 (0, 0))
  st : Sts w' (w.heap.size + 2) v l
  bl : Below w.heap.size w w'
theorem Dwn.c0 {w : World} {fb fe b n : Nat} {v : Value} {l : List (Nat × Nat × Bool)} {w' : World} (h : Dwn w fb fe b n v l w') : w'.cell? ⟨w.heap.size, 0, none⟩ = some (.int .i64 (fb : Int)) ∧ w'.cell? ⟨w.heap.size, 1, none⟩ = some (.int .i64 (fe : Int)) ∧ w'.cell? ⟨w.heap.size + 1, 0, none⟩ = some (.int .i64 (b : Int)) ∧ w'.cell? ⟨w.heap.size + 1, 1, none⟩ = some (.int .i64 ((b + n : Nat) : Int)) := by
  refine ⟨?_, ?_, ?_, ?_⟩
  · rw [cell_of_row _ _ _ _ _ _ h.r3]; rfl
  · rw [cell_of_row _ _ _ _ _ _ h.r3]; rfl
  · rw [cell_of_row _ _ _ _ _ _ h.r6]; rfl
  · rw [cell_of_row _ _ _ _ _ _ h.r6]; rfl
theorem Dwn.drew {w : World} {fb fe b n : Nat} {v : Value} {l : List (Nat × Nat × Bool)} {w' : World} (h : Dwn w fb fe b n v l w') (k : Nat) : Dwn w fb fe b n v l (w'.drewN k) := ⟨h.r3, h.r6, ⟨h.st.1.drewN k, h.st.2⟩, below_drewN h.bl k⟩
/-- a step is laid down, then the span is cut -/
theorem Dwn.step {w : World} {fb fe b n : Nat} {v : Value} {l : List (Nat × Nat × Bool)} {w' : World} (h : Dwn w fb fe b n v l w') (q : Nat × Nat × Bool) (hl : l.length ≤ 2000000) :
    ∃ v' w'', (Builtin.append_ #[50, 50] 50 #[v, .slice (some ⟨w'.heap.size, 0, none⟩) 1 1]).run Tryz.prog (w'.alloc (.cells #[.int .i64 (q.1 : Int), .int .i64 (q.2.1 : Int), .bool q.2.2] 63)) = .ok v' w'' ∧ Dwn w fb fe b n v' (l ++ [q]) w'' := by
  have h2 : w.heap.size + 2 ≤ w'.heap.size := lt_of_heap h.r6
  obtain ⟨v', w'', h1, hS, hB⟩ := append_step w' v l q (w.heap.size + 2) h.st h2 hl
  exact ⟨v', w'', h1, (hB.block _ (by omega)).trans h.r3, (hB.block _ (by omega)).trans h.r6, hS, h.bl.trans (hB.mono (by omega))⟩
theorem Dwn.set0 {w : World} {fb fe b n : Nat} {v : Value} {l : List (Nat × Nat × Bool)} {w' : World} (h : Dwn w fb fe b n v l w') (k : Nat) (hk : k ≤ n) : Dwn w fb fe (b + k) (n - k) v l (w'.setCell ⟨w.heap.size + 1, 0, none⟩ (.int .i64 ((b + k : Nat) : Int))) := by
  have e : (w'.setCell ⟨w.heap.size + 1, 0, none⟩ (.int .i64 ((b + k : Nat) : Int))).heap[w.heap.size + 1]? = some (.cells #[.int .i64 ((b + k : Nat) : Int), .int .i64 ((b + n : Nat) : Int)] 53 (0, 0)) := heap_setCell_same w' (w.heap.size + 1) 0 _ _ _ h.r6
  refine ⟨(Below.heap_setCell w' ⟨w.heap.size + 1, 0, none⟩ _ w.heap.size (by simp)).trans h.r3, ?_, ⟨h.st.1.kept (by simp [World.setCell]) fun g hg => Below.heap_setCell w' ⟨w.heap.size + 1, 0, none⟩ _ g (by have := h.st.2 g hg; simp; omega), h.st.2⟩, h.bl.setCell (by simp) _⟩
  rw [show b + k + (n - k) = b + n by omega]
  exact e
theorem Dwn.set1 {w : World} {fb fe b n : Nat} {v : Value} {l : List (Nat × Nat × Bool)} {w' : World} (h : Dwn w fb fe b n v l w') (k : Nat) : Dwn w fb fe b k v l (w'.setCell ⟨w.heap.size + 1, 1, none⟩ (.int .i64 ((b + k : Nat) : Int))) := by
  have e : (w'.setCell ⟨w.heap.size + 1, 1, none⟩ (.int .i64 ((b + k : Nat) : Int))).heap[w.heap.size + 1]? = some (.cells #[.int .i64 (b : Int), .int .i64 ((b + k : Nat) : Int)] 53 (0, 0)) := heap_setCell_same w' (w.heap.size + 1) 1 _ _ _ h.r6
  exact ⟨(Below.heap_setCell w' ⟨w.heap.size + 1, 1, none⟩ _ w.heap.size (by simp)).trans h.r3, e, ⟨h.st.1.kept (by simp [World.setCell]) fun g hg => Below.heap_setCell w' ⟨w.heap.size + 1, 1, none⟩ _ g (by have := h.st.2 g hg; simp; omega), h.st.2⟩, h.bl.setCell (by simp) _⟩
theorem dn_len : ∀ (f b n fb fe : Nat), (Tree.dn f b n fb fe).length ≤ f
  | 0, _, _, _, _ => Nat.le_refl _
  | f + 1, b, n, fb, fe => by
    rw [Tree.dn]
    split
    · exact Nat.zero_le _
    · split
      · have := dn_len f (b + Tree.sp n) (n - Tree.sp n) fb fe; simp; omega
      · have := dn_len f b (Tree.sp n) fb fe; simp; omega
end Go.Proofs.YthoekndjeclimaaGreatDoor
