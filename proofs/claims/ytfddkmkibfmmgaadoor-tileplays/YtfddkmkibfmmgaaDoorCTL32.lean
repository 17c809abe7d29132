import Derived.Test.YtfddkmkibfmmgaaDoorCTL28
import Derived.Test.YtfddkmkibfmmgaaDoorCR5
import Derived.Test.YtfddkmkibfmmgaaDoorCTL20
import Derived.Test.YtfddkmkibfmmgaaDoorCFL1
import Derived.Test.YtfddkmkibfmmgaaDoorCO23
namespace Go.Proofs.YtfddkmkibfmmgaaDoor
open Go.RowKit
set_option maxRecDepth 100000 in
set_option maxHeartbeats 1000000 in
/-- the document's node of two hashes -/
theorem rnode7_any {l r m : List UInt8} (hl : l.length = 32) (hr : r.length = 32) (h : Hid (Tree.nd l r = m)) (w : World) :
    Calls Tryd.prog 92 #[sv l, sv r] w fun e w' => e = .returned (sv m) ∧ Below w.heap.size w w' := by
  have hm := h.out
  unfold Tree.nd at hm
  rw [if_pos ⟨hl, hr⟩] at hm
  obtain ⟨L, hL⟩ : ∃ L : ByteArray, ByteArray.mk l.toArray = L := ⟨_, rfl⟩
  obtain ⟨R, hR⟩ : ∃ R : ByteArray, ByteArray.mk r.toArray = R := ⟨_, rfl⟩
  have sL : L.size = 32 := by rw [← hL, sv_size, hl]
  have sR : R.size = 32 := by rw [← hR, sv_size, hr]
  have z1 : ({ data := #[1] } ++ L : ByteArray).size = 33 := by rw [app_size, sL]; rfl
  have z2 := joined_size L R sL sR
  have i1 := rsum_at ({ data := #[1] } ++ L ++ R) m (by rw [z2]; omega) (hid (by rw [joined_data, ← hL, ← hR, sv_data, sv_data, ← hm])) w
  rw [show sv l = Value.string L from congrArg Value.string hL, show sv r = Value.string R from congrArg Value.string hR]
  clear hL hR h hm
  go_enter Tryd.func92, Tryd.ntmps92
  go_wp2_with (go_at_call 91; refine i1.mono ?_; rintro e w1 ⟨rfl, hw1⟩)
  go_ret
  exact ⟨rfl, hw1⟩
set_option maxRecDepth 100000 in
set_option maxHeartbeats 400000 in
theorem hash7_nil (a : Option Addr) (cap : Nat) (w : World) :
    Calls Tryd.prog 87 #[.slice a 0 cap] w fun e w' => e = .returned (sv (Tree.root [])) ∧ Below w.heap.size w w' := by
  rw [Tree.root_nil]
  obtain ⟨D, hD⟩ : ∃ D, Sha.sha [] = D := ⟨_, rfl⟩
  rw [hD]
  have i1 := rsum_nil (hid hD)
  clear hD
  go_enter Tryd.func87, Tryd.ntmps87
  go_wp2_with (go_at_call 91; refine (i1 _).mono ?_; rintro e w1 ⟨rfl, hw1⟩)
  go_ret
  exact ⟨rfl, hw1⟩
set_option maxRecDepth 100000 in
set_option maxHeartbeats 400000 in
theorem hash7_one (p : List UInt8) (a : Option Addr) (cap : Nat) (w : World) (hA : At w a [p]) :
    Calls Tryd.prog 87 #[.slice a 1 cap] w fun e w' => e = .returned (sv (Tree.root [p])) ∧ Below w.heap.size w w' := by
  rw [Tree.root_one]
  obtain ⟨x, rfl, hx, hc⟩ := hA 0 p rfl
  rw [addr_zero] at hc
  go_enter Tryd.func87, Tryd.ntmps87
  go_wp2
  go_ret
  exact ⟨rfl, Below.refl _ _⟩
set_option maxRecDepth 100000 in
set_option maxHeartbeats 4000000 in
/-- the document's hash of some leaves -/
theorem hash7_any : ∀ (f : Nat) (l : List (List UInt8)) (a : Option Addr) (cap : Nat) (w : World), l.length ≤ f → l.length ≤ cap → cap ≤ 9223372036854775807 → l.length ≤ 4611686018427387903 → Tree.Hs l → At w a l →
    Calls Tryd.prog 87 #[.slice a l.length cap] w fun e w' => e = .returned (sv (Tree.root l)) ∧ Below w.heap.size w w' := by
  intro f
  induction f with
  | zero =>
    intro l a cap w hf hl hc h62 hHs hA
    obtain rfl : l = [] := List.length_eq_zero_iff.1 (by omega)
    exact hash7_nil a cap w
  | succ f ih =>
    intro l a cap w hf hl hc h62 hHs hA
    match l, hf, hl, h62, hHs, hA with
    | [], _, _, _, _, _ => exact hash7_nil a cap w
    | [p], _, _, _, _, hA => exact hash7_one p a cap w hA
    | p :: q :: t, hf, hl, h62, hHs, hA =>
      obtain ⟨n, hn⟩ : ∃ n, (p :: q :: t).length = n := ⟨_, rfl⟩
      have h2 : 2 ≤ n := by rw [← hn]; simp
      obtain ⟨x, rfl⟩ := hA.pos (by rw [hn]; omega)
      have e := hid (Tree.root_cut (l := p :: q :: t) (by rw [hn]; exact h2))
      generalize p :: q :: t = l at *
      rw [hn] at e hf hl h62 ⊢
      have k1 := Tree.sp_lt h2
      have k2 := Tree.sp_pos h2
      have hsp : Hid (∀ a, 2 ^ a < n → n ≤ 2 * 2 ^ a → 2 ^ a = Tree.sp n) := fun a x1 x2 => (Tree.sp_one h2 a x1 x2).symm
      generalize Tree.sp n = k at *
      have l1 : (l.take k).length = k := by rw [List.length_take, hn]; omega
      have l2 : (l.drop k).length = n - k := by rw [List.length_drop, hn]
      have c1 := fun w' (h : At w' (some x) (l.take k)) => ih (l.take k) (some x) cap w' (by omega) (by omega) hc (by omega) (hHs.take k) h
      have c2 := fun w' (h : At w' (some (x.add k)) (l.drop k)) => ih (l.drop k) (some (x.add k)) (cap - k) w' (by omega) (by omega) (by omega) (by omega) (hHs.drop k) h
      rw [l1] at c1
      rw [l2] at c2
      have n1 : ((n : Int) == 0) = false := by simp; omega
      have n2 : ((n : Int) == 1) = false := by simp; omega
      have hne : ¬ cap = k := by omega
      have A1 := hid (hA.take k)
      have A2 := hid (hA.drop k)
      have s1 := Tree.root_hash (hHs.take k)
      have s2 := Tree.root_hash (hHs.drop k)
      generalize hp1 : Tree.root (l.take k) = r1 at *
      generalize hp2 : Tree.root (l.drop k) = r2 at *
      obtain ⟨m, hm⟩ : ∃ m, Hid (Tree.nd r1 r2 = m) := ⟨_, rfl⟩
      have e' := hid (show Tree.root l = m by rw [e.out, hm.out])
      have iN := fun w' => rnode7_any s1 s2 hm w'
      clear hA ih hn e hp1 hp2 s1 s2 l1 l2 hHs hf
      go_enter Tryd.func87, Tryd.ntmps87
      go_wp2
      go_loopw [3] (fun v w' => ∃ a j : Nat, v = .int .i64 (j : Int) ∧ j < n ∧ 1 ≤ j ∧ Hid (2 ^ a = j) ∧ w' = w) (fun v _ => n - (intOf v).toNat)
      case atStart => exact ⟨0, 1, rfl, by omega, by omega, hid rfl, rfl⟩
      case round =>
        obtain ⟨a, j, rfl, hj, hj1, ha, rfl⟩ := hrel
        have s1 : IntKind.i64.wrap (2 * (j : Int)) = 2 * (j : Int) := wrap_small _ (by omega) (by omega)
        by_cases hlt : 2 * j < n
        · have c0 : 2 * (j : Int) < (n : Int) := by omega
          clear c1 c2
          go_wp2
          exact ⟨⟨a + 1, 2 * j, by go_num, hlt, by omega, by unfold Hid; rw [Nat.pow_succ, ha.out]; omega, by first | exact rfl | trivial⟩, by simp [intOf]; omega⟩
        · have c0 : ¬ 2 * (j : Int) < (n : Int) := by omega
          have hjk : j = k := by have := hsp.out a (by rw [ha.out]; exact hj) (by rw [ha.out]; omega); rw [ha.out] at this; exact this
          subst hjk
          have m0 : (0 : Int) ≤ (j : Int) := by omega
          have m1 : (j : Int) ≤ (cap : Int) := by omega
          have m2 : (j : Int) ≤ (n : Int) := by omega
          have m3 : (n : Int) ≤ (cap : Int) := by omega
          have hd : Hid (Below wr.heap.size wr wr.drew) := hid (Below.refl _ wr).drew
          clear hsp ha hA
          go_wp2
          go_region_held3 (fun _ => True) (trivial) (first
            | (go_at_call 87; (with_reducible refine (c1 _ (A1.out.below hd.out (Nat.le_refl _))).mono ?_); rintro e w9 ⟨rfl, hw9⟩; have h9 := hid (hd.out.trans (hw9.mono hd.out.size)))
            | (go_at_call 87; (with_reducible refine (c2 _ (A2.out.below h9.out (Nat.le_refl _))).mono ?_); rintro e w10 ⟨rfl, hw10⟩; have h10 := hid (h9.out.trans (hw10.mono h9.out.size)))
            | (go_at_call 92; (with_reducible refine (iN _).mono ?_); rintro e w11 ⟨rfl, hw11⟩; have h11 := hid (h10.out.trans (hw11.mono h10.out.size))))
          all_goals go_wp2
          all_goals go_ret
          all_goals exact ⟨by rw [e'.out]; rfl, h11.out⟩
end Go.Proofs.YtfddkmkibfmmgaaDoor

namespace Go.Proofs.YtfddkmkibfmmgaaDoor
open Go.RowKit
theorem sg_more {L : List (List UInt8)} {b k m : Nat} (hb : b + k < L.length) (hk : k < m) : (Til.sg L b (b + k) ++ List.replicate (m - k) []).set k L[b + k] = Til.sg L b (b + (k + 1)) ++ List.replicate (m - (k + 1)) [] := by
  have hl := Til.sg_len (L := L) (b := b) (e := b + k) (by omega)
  have e1 : Til.sg L b (b + (k + 1)) = Til.sg L b (b + k) ++ [L[b + k]] := by
    unfold Til.sg
    rw [show b + (k + 1) = (b + k) + 1 by omega, List.take_add_one, List.getElem?_eq_getElem hb, Option.toList_some, List.drop_append_of_le_length (by rw [List.length_take]; omega)]
  rw [List.set_append, if_neg (by omega), hl, show b + k - b = k by omega, Nat.sub_self, e1, List.append_assoc]
  congr 1
  rw [show m - k = (m - (k + 1)) + 1 by omega, List.replicate_succ, List.set_cons_zero]
  rfl
set_option maxRecDepth 100000 in
set_option maxHeartbeats 4000000 in
theorem tLeaves_any {w : World} {q h : Nat} {L : List (List UInt8)} {F : Nat → Prop} (t : TrL w q h L F) (b e : Nat) (hb : b ≤ e) (he : e ≤ L.length) :
    Calls Tryd.prog 25 #[.pointer (some ⟨q, 0, none⟩), .agg #[.int .i64 (b : Int), .int .i64 (e : Int)]] w fun r w' => ∃ g, w.heap.size ≤ g ∧ r = .returned (.tuple #[.slice (some ⟨g, 0, none⟩) (e - b) (e - b), .int .i64 0]) ∧ Row w' g (Til.sg L b e) ∧ Below w.heap.size w w' := by
  obtain ⟨w1, hw1⟩ : ∃ w1, w.alloc (.cells #[Value.int .i64 (b : Int), .int .i64 (e : Int)] 47) = w1 := ⟨_, rfl⟩
  have b1 := (Below.refl w.heap.size w).alloc (Nat.le_refl _) (.cells #[Value.int .i64 (b : Int), .int .i64 (e : Int)] 47)
  have r1 := heap_alloc_new w (.cells #[Value.int .i64 (b : Int), .int .i64 (e : Int)] 47)
  rw [hw1] at b1 r1
  have c0 : w1.cell? ⟨w.heap.size, 0, none⟩ = some (.int .i64 (b : Int)) := by rw [cell_of_row _ _ _ _ _ _ r1]; rfl
  have c1 : w1.cell? ⟨w.heap.size, 1, none⟩ = some (.int .i64 (e : Int)) := by rw [cell_of_row _ _ _ _ _ _ r1]; rfl
  have T1 := hid (t.below b1)
  have i1 := hasSpan_any T1.out (b : Int) (e : Int)
  have hsp : spB L.length (b : Int) (e : Int) = true := by unfold spB; exact decide_eq_true ⟨by omega, by omega, by omega⟩
  rw [hsp] at i1
  have B1 := hid b1
  have hlt : w.heap.size < w1.heap.size := lt_of_heap r1
  have n20 := t.n20
  obtain ⟨m, hm⟩ : ∃ m : Nat, Hid (e - b = m) := ⟨_, rfl⟩
  have hmo := hm.out
  have s1 : IntKind.i64.wrap ((e : Int) - (b : Int)) = (m : Int) := by rw [wrap_small _ (by omega) (by omega)]; omega
  rw [hmo]
  clear t b1 r1 hsp
  go_enter Tryd.func25, Tryd.ntmps25
  go_wp2_with (go_at_call 46; fail)
  refine i1.mono ?_
  rintro r w2 ⟨rfl, hw2⟩
  have d0 := (hw2.cell (p := ⟨w.heap.size, 0, none⟩) hlt).trans c0
  have d1 := (hw2.cell (p := ⟨w.heap.size, 1, none⟩) hlt).trans c1
  have D0 := hid d0
  have B2 := hid (B1.out.trans (hw2.mono B1.out.size))
  have T2 := hid (T1.out.below hw2)
  have hlt2 : w.heap.size < w2.heap.size := Nat.lt_of_lt_of_le hlt hw2.size
  have hmk := make_texts w2 m (by omega)
  have R3 : Row (w2.alloc (.cells (svs (List.replicate m [])).toArray 9)) w2.heap.size (List.replicate m []) := heap_alloc_new w2 _
  have b3 := (Below.refl w2.heap.size w2).alloc (Nat.le_refl _) (.cells (svs (List.replicate m [])).toArray 9)
  obtain ⟨w3, hw3⟩ : ∃ w3, w2.alloc (.cells (svs (List.replicate m [])).toArray 9) = w3 := ⟨_, rfl⟩
  rw [hw3] at R3 b3 hmk
  have R3 := hid R3
  have B3 := hid b3
  clear c0 c1 i1 hw2 T1 B1 b3
  go_wp2
  go_loopw [20] (fun i w' => ∃ k : Nat, k ≤ m ∧ i = .int .i64 (k : Int) ∧ Hid (Row w' w2.heap.size (Til.sg L b (b + k) ++ List.replicate (m - k) [])) ∧ Hid (Below w2.heap.size w2 w')) (fun i _ => m - (intOf i).toNat)
  case atStart => exact ⟨0, by omega, rfl, by unfold Hid; rw [Nat.add_zero, Til.sg_nil, List.nil_append, Nat.sub_zero]; exact R3.out, B3⟩
  case round =>
    clear R3 B3 hmk hw3 d0 d1 s1
    obtain ⟨k, hk, rfl, hR, hB⟩ := hrel
    by_cases hkm : k < m
    · have c0 : (k : Int) < (m : Int) := by omega
      have k0 : (0 : Int) ≤ (k : Int) := by omega
      have d0 := (hB.out.cell (p := ⟨w.heap.size, 0, none⟩) hlt2).trans D0.out
      have hbk : b + k < L.length := by omega
      obtain ⟨j, hj⟩ : ∃ j, b + k = j := ⟨_, rfl⟩
      have s2 : IntKind.i64.wrap ((b : Int) + (k : Int)) = (j : Int) := by rw [wrap_small _ (by omega) (by omega)]; omega
      have hst := sg_more (L := L) (b := b) (k := k) (m := m) hbk hkm
      obtain ⟨x, hx⟩ : ∃ x, L[b + k] = x := ⟨_, rfl⟩
      rw [hx] at hst
      obtain ⟨⟨bb, es, t1, rfl⟩, _, _, g8, _, _⟩ := T2.out
      have hh := thash_any (t1.below hB.out) g8 0 j (by omega) (by omega) (x := x) (by
        rw [Til.rf_nat, Til.row_at (by unfold Til.cn; rw [Nat.pow_zero, Nat.div_one]; omega), ← hj, Til.hs_leaf hbk, hx])
      rw [show ((0 : Nat) : Int) = 0 from rfl] at hh
      have hlen : (Til.sg L b (b + k) ++ List.replicate (m - k) []).length = m := by
        rw [List.length_append, List.length_replicate, Til.sg_len (by omega)]; omega
      have hlw := hR.out.lt
      clear t1 hx hbk hj
      go_wp2_with (go_at_call 35; fail)
      refine hh.mono ?_
      rintro r w4 ⟨rfl, hw4⟩
      have R4 := hR.out.below hw4 hlw
      have R5 := R4.set k x
      rw [hst] at R5
      have f4 := R4.free (j := k) (by rw [hlen]; exact hkm)
      have c4 := R4.cell (j := k) (List.getElem?_eq_getElem (by rw [hlen]; exact hkm))
      have B5 := hid ((hB.out.trans (hw4.mono hB.out.size)).setCell (p := ⟨w2.heap.size, k, none⟩) (Nat.le_refl _) (sv x))
      have B5 := B5.out
      rw [svS x] at R5 B5 ⊢
      have R5 := hid R5
      have B5 := hid B5
      generalize (Til.sg L b (b + k) ++ List.replicate (m - k) [])[k]'(by rw [hlen]; exact hkm) = y0 at c4
      clear hh hw4 R4 hR hB hst hlen hlw d0
      go_wp2
      exact ⟨⟨k + 1, by omega, by go_num, R5, B5⟩, by simp [intOf]; omega⟩
    · obtain rfl : k = m := by omega
      have c0 : ¬ (k : Int) < (k : Int) := by omega
      go_wp2
      go_ret2
      have hR := hR.out
      rw [Nat.sub_self, List.replicate_zero, List.append_nil, show b + k = e by omega] at hR
      exact ⟨w2.heap.size, B2.out.size, rfl, hR, B2.out.trans (hB.out.mono B2.out.size)⟩
end Go.Proofs.YtfddkmkibfmmgaaDoor

namespace Go.Proofs.YtfddkmkibfmmgaaDoor
open Go.RowKit
theorem sizeSpn : (Tryd.prog.info? 47).map (·.size) = some 2 := by kernel_rfl
set_option maxRecDepth 100000 in
set_option maxHeartbeats 2000000 in
/-- of raw numbers a span that there is -/
theorem lspan_any (n m : Int) (s : Nat) (hs : s ≤ 1099511627776) (hn : -9223372036854775808 ≤ n ∧ n ≤ 9223372036854775807) (hm : -9223372036854775808 ≤ m ∧ m ≤ 9223372036854775807) (w : World) :
    Calls Tryd.prog 22 #[.int .i64 n, .int .i64 m, .int .i64 (s : Int)] w fun r w' => ∃ b e : Nat, r = .returned (.agg #[.int .i64 (b : Int), .int .i64 (e : Int)]) ∧ b ≤ e ∧ e ≤ s ∧ Below w.heap.size w w' := by
  obtain ⟨w1, hw1⟩ : ∃ w1, w.alloc (.cells #[Value.int .i64 0, .int .i64 0] 47) = w1 := ⟨_, rfl⟩
  have b1 := (Below.refl w.heap.size w).alloc (Nat.le_refl _) (.cells #[Value.int .i64 0, .int .i64 0] 47)
  have r1 := heap_alloc_new w (.cells #[Value.int .i64 0, .int .i64 0] 47)
  rw [hw1] at b1 r1
  have c0 : w1.cell? ⟨w.heap.size, 0, none⟩ = some (.int .i64 0) := by rw [cell_of_row _ _ _ _ _ _ r1]; rfl
  have c1 : w1.cell? ⟨w.heap.size, 1, none⟩ = some (.int .i64 0) := by rw [cell_of_row _ _ _ _ _ _ r1]; rfl
  have f0 : w1.frozen? ⟨w.heap.size, 0, none⟩ = false := frozen_of_row w1 _ _ _ _ r1
  have f1 : w1.frozen? ⟨w.heap.size, 1, none⟩ = false := frozen_of_row w1 _ _ _ _ r1
  have p0 := pk_nonneg n ((s : Int) + 1) (by omega)
  have p1 := pk_lt n ((s : Int) + 1) (by omega)
  obtain ⟨b, hb⟩ : ∃ b : Nat, pk n ((s : Int) + 1) = (b : Int) := ⟨(pk n ((s : Int) + 1)).toNat, by omega⟩
  have i1 := pick_any n ((s : Int) + 1) hn.1 hn.2 (by omega) (by omega) w1
  rw [hb] at i1 p0 p1
  have s1 : IntKind.i64.wrap ((s : Int) + 1) = (s : Int) + 1 := wrap_small _ (by omega) (by omega)
  obtain ⟨d, hd⟩ : ∃ d : Nat, (s : Int) - (b : Int) = (d : Int) := ⟨s - b, by omega⟩
  have s2 : IntKind.i64.wrap ((s : Int) - (b : Int)) = (d : Int) := by rw [wrap_small _ (by omega) (by omega)]; exact hd
  have s3 : IntKind.i64.wrap ((d : Int) + 1) = (d : Int) + 1 := wrap_small _ (by omega) (by omega)
  have p2 := pk_nonneg m ((d : Int) + 1) (by omega)
  have p3 := pk_lt m ((d : Int) + 1) (by omega)
  obtain ⟨e, he⟩ : ∃ e : Nat, (b : Int) + pk m ((d : Int) + 1) = (e : Int) := ⟨((b : Int) + pk m ((d : Int) + 1)).toNat, by omega⟩
  have i2 := pick_any m ((d : Int) + 1) hm.1 hm.2 (by omega) (by omega) w1
  have s4 : IntKind.i64.wrap ((b : Int) + pk m ((d : Int) + 1)) = (e : Int) := by rw [wrap_small _ (by omega) (by omega)]; exact he
  have hbe : b ≤ e := by omega
  have hes : e ≤ s := by omega
  generalize pk m ((d : Int) + 1) = pe at *
  have R9 : Hid (((w1.setCell ⟨w.heap.size, 0, none⟩ (.int .i64 (b : Int))).setCell ⟨w.heap.size, 1, none⟩ (.int .i64 (e : Int))).heap[w.heap.size]? = some (.cells #[.int .i64 (b : Int), .int .i64 (e : Int)] 47 (0, 0))) := by
    have h1 := heap_setCell_same w1 w.heap.size 0 _ _ (.int .i64 (b : Int)) r1
    exact heap_setCell_same _ w.heap.size 1 _ _ (.int .i64 (e : Int)) h1
  have B9 := hid ((b1.setCell (p := ⟨w.heap.size, 0, none⟩) (Nat.le_refl _) (.int .i64 (b : Int))).setCell (p := ⟨w.heap.size, 1, none⟩) (Nat.le_refl _) (.int .i64 (e : Int)))
  clear hb hd he p0 p1 p2 p3 r1 b1 hs
  go_enter Tryd.func22, Tryd.ntmps22
  go_wp2_with (first
    | (go_at_call 28; (with_reducible refine i1.mono ?_); rintro r w0 ⟨rfl, h0⟩; have h0 := h0.symm; subst h0)
    | (go_at_call 28; (with_reducible refine i2.mono ?_); rintro r w0 ⟨rfl, h0⟩; have h0 := h0.symm; subst h0))
  refine bodyPost_ret (results_cell_row rfl _ _ w.heap.size 47 _ (0, 0) _ rfl R9.out Tryd.underlying47 rfl sizeSpn) rfl ?_
  exact ⟨b, e, rfl, hbe, hes, B9.out⟩
end Go.Proofs.YtfddkmkibfmmgaaDoor

namespace Go.Proofs.YtfddkmkibfmmgaaDoor
open Go.RowKit
theorem Tb.next {w w' : World} (h : Tb w) (hb : Below w.heap.size w w') : Tb w' := h.below hb h.lt
/-- three edges that share nothing, from block B on -/
structure G3 (w : World) (B qe qg qc : Nat) (Le Lg Lc : List (List UInt8)) (Fe Fg Fc : Nat → Prop) : Prop where
  e : EdL w qe Le Fe
  g : EdL w qg Lg Fg
  c : EdL w qc Lc Fc
  eg : ∀ k, Fe k → ¬ Fg k
  ec : ∀ k, Fe k → ¬ Fc k
  gc : ∀ k, Fg k → ¬ Fc k
  B1 : ∀ k, Fe k → B ≤ k
  B2 : ∀ k, Fg k → B ≤ k
  B3 : ∀ k, Fc k → B ≤ k
  B0 : B ≤ w.heap.size
theorem G3.below {w w' : World} {B qe qg qc : Nat} {Le Lg Lc : List (List UInt8)} {Fe Fg Fc : Nat → Prop} (h : G3 w B qe qg qc Le Lg Lc Fe Fg Fc) (hb : Below w.heap.size w w') : G3 w' B qe qg qc Le Lg Lc Fe Fg Fc :=
  ⟨Ed.below h.e hb, Ed.below h.g hb, Ed.below h.c hb, h.eg, h.ec, h.gc, h.B1, h.B2, h.B3, Nat.le_trans h.B0 hb.size⟩
theorem G3.setE {w w' : World} {B qe qg qc : Nat} {Le Lg Lc Le' : List (List UInt8)} {Fe Fg Fc Fe' : Nat → Prop} (h : G3 w B qe qg qc Le Lg Lc Fe Fg Fc) (hm : Mov Fe w w' Fe') (he : EdL w' qe Le' Fe') : G3 w' B qe qg qc Le' Lg Lc Fe' Fg Fc ∧ Below B w w' := by
  obtain ⟨g1, g2⟩ := Ed.mov h.g hm fun k hk e => h.eg k e hk
  obtain ⟨c1, c2⟩ := Ed.mov h.c hm fun k hk e => h.ec k e hk
  obtain ⟨b1, b2⟩ := hm.below h.B0 h.B1
  exact ⟨⟨he, g1, c1, fun k hk e => g2 k e hk, fun k hk e => c2 k e hk, h.gc, b2, h.B2, h.B3, Nat.le_trans h.B0 b1.size⟩, b1⟩
theorem G3.setG {w w' : World} {B qe qg qc : Nat} {Le Lg Lc Lg' : List (List UInt8)} {Fe Fg Fc Fg' : Nat → Prop} (h : G3 w B qe qg qc Le Lg Lc Fe Fg Fc) (hm : Mov Fg w w' Fg') (he : EdL w' qg Lg' Fg') : G3 w' B qe qg qc Le Lg' Lc Fe Fg' Fc ∧ Below B w w' := by
  obtain ⟨e1, e2⟩ := Ed.mov h.e hm h.eg
  obtain ⟨c1, c2⟩ := Ed.mov h.c hm fun k hk e => h.gc k e hk
  obtain ⟨b1, b2⟩ := hm.below h.B0 h.B2
  exact ⟨⟨e1, he, c1, e2, h.ec, fun k hk e => c2 k e hk, h.B1, b2, h.B3, Nat.le_trans h.B0 b1.size⟩, b1⟩
theorem G3.setC {w w' : World} {B qe qg qc : Nat} {Le Lg Lc Lc' : List (List UInt8)} {Fe Fg Fc Fc' : Nat → Prop} (h : G3 w B qe qg qc Le Lg Lc Fe Fg Fc) (hm : Mov Fc w w' Fc') (he : EdL w' qc Lc' Fc') : G3 w' B qe qg qc Le Lg Lc' Fe Fg Fc' ∧ Below B w w' := by
  obtain ⟨e1, e2⟩ := Ed.mov h.e hm h.ec
  obtain ⟨g1, g2⟩ := Ed.mov h.g hm h.gc
  obtain ⟨b1, b2⟩ := hm.below h.B0 h.B3
  exact ⟨⟨e1, g1, he, h.eg, e2, g2, h.B1, h.B2, b2, Nat.le_trans h.B0 b1.size⟩, b1⟩
theorem Tabs.next' {w w' : World} (h : Tabs w) (hb : Below w.heap.size w w') : Tabs w' := h.below hb h.lt
end Go.Proofs.YtfddkmkibfmmgaaDoor
