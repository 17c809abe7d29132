import Derived.Test.YthoekndjeclimaaGreatDoorCI22
import Derived.Test.YthoekndjeclimaaGreatDoorCXP3
import Derived.Test.YthoekndjeclimaaGreatDoorCXP10
import Derived.Test.YthoekndjeclimaaGreatDoorCEP11
namespace Go.Proofs.YthoekndjeclimaaGreatDoor
open Go.RowKit
namespace Tree
theorem hi_snoc : ∀ (xs ys : List T) (a b : T), xs.length = ys.length → hi (xs ++ [a]) (ys ++ [b]) = if a = b then hi xs ys else some (a, b)
  | [], [], a, b, _ => by
    show (match hi [] [] with | some p => some p | none => if a = b then none else some (a, b)) = _
    rfl
  | x :: xs, y :: ys, a, b, e => by
    show (match hi (xs ++ [a]) (ys ++ [b]) with | some p => some p | none => if x = y then none else some (x, y)) = _
    rw [hi_snoc xs ys a b (by simpa using e)]
    by_cases h : a = b
    · rw [if_pos h, if_pos h]; rfl
    · rw [if_neg h, if_neg h]
theorem hi_down {A B : List T} {k : Nat} (hl : A.length = B.length) (h : k < A.length) : hi (A.take (k + 1)) (B.take (k + 1)) = if A[k] = B[k]'(by omega) then hi (A.take k) (B.take k) else some (A[k], B[k]'(by omega)) := by
  rw [List.take_succ_eq_append_getElem h, List.take_succ_eq_append_getElem (by omega)]
  exact hi_snoc _ _ _ _ (by rw [List.length_take, List.length_take]; omega)
end Tree
/-- the answer of the highest that differ -/
def hiO (A B : List (List UInt8)) : (List UInt8 × List UInt8) × Int := match Tree.hi A B with | some p => (p, 0) | none => (([], []), 60)
theorem hiO_nil : hiO [] [] = (([], []), 60) := rfl
set_option maxRecDepth 100000 in
set_option maxHeartbeats 2000000 in
theorem r6highest_any (A B : List (List UInt8)) (a d : Option Addr) (ca cd : Nat) (w : World) (ha : At w a A) (hd : At w d B) (hl : A.length = B.length) (hm : A.length ≤ 9223372036854775807) :
    Calls Tryz.prog 28 #[.slice a A.length ca, .slice d B.length cd] w fun e w' => e = .returned (.tuple #[prP (hiO A B).1.1 (hiO A B).1.2, .int .i64 (hiO A B).2]) ∧ Below w.heap.size w w' := by
  have z1 := size_alloc w (.cells #[Value.string ⟨#[]⟩, .string ⟨#[]⟩] 26)
  have al := (Below.refl w.heap.size w).alloc (Nat.le_refl _) (.cells #[Value.string ⟨#[]⟩, .string ⟨#[]⟩] 26)
  have R0 := heap_alloc_new w (.cells #[Value.string ⟨#[]⟩, .string ⟨#[]⟩] 26)
  obtain ⟨w0, hw0⟩ : ∃ w0, w.alloc (.cells #[Value.string ⟨#[]⟩, .string ⟨#[]⟩] 26) = w0 := ⟨_, rfl⟩
  rw [hw0] at al R0 z1
  have HR := hid R0
  have HB := hid al
  have Ha := hid ha
  have Hd := hid hd
  have HL := hid hl
  obtain ⟨n, hn⟩ : ∃ n, Hid (A.length = n) := ⟨_, rfl⟩
  rw [← hl, hn.out]
  rw [hn.out] at hm
  have m1 : IntKind.i64.wrap ((n : Int) - 1) = (n : Int) - 1 := by rw [IntKind.wrap_i64]; omega
  clear al R0 ha hd hl
  go_enter Tryz.func28, Tryz.ntmps28
  go_wp2
  go_loopw [6] (fun i w' => ∃ k : Nat, k ≤ n ∧ i = .int .i64 ((k : Int) - 1) ∧ Hid (hiO A B = hiO (A.take k) (B.take k)) ∧ Hid (Below w0.heap.size w0 w')) (fun i _ => (intOf i + 1).toNat)
  case atStart => exact ⟨n, by omega, rfl, by rw [Hid, List.take_of_length_le (Nat.le_of_eq hn.out), List.take_of_length_le (Nat.le_of_eq (HL.out.symm.trans hn.out))], hid (Below.refl _ _)⟩
  case round =>
    obtain ⟨k, hk, rfl, hq, hw'⟩ := hrel
    cases k with
    | zero =>
      have HO2 : Hid (hiO A B = (([], []), 60)) := by rw [Hid, hq.out]; rfl
      have HR2 := hid ((hw'.out.block _ (lt_of_heap HR.out)).trans HR.out)
      have HB2 := hid (HB.out.trans (hw'.out.mono HB.out.size))
      clear hq hw'
      go_wp2_with ((with_reducible show wpList _ _ _ (Oper.mk _ (Op.store 26 _ _) _ _ _ _ :: _) _ _); go_must (refine wpList_store_row rfl 26 _ _ rfl (w.heap.size) _ rfl rfl 26 _ HR2.out sizePr rfl (onePr [] []) ?_))
      refine bodyPost_ret (results_row6 rfl _ _ (w.heap.size) 26 _ (0, 0) _ rfl (setRow_heap _ _ _ _ _ _ HR2.out) Tryz.underlying26 rfl sizePr) rfl ?_
      exact ⟨by rw [HO2.out]; rfl, Below.setRow HB2.out (by omega) _⟩
    | succ k =>
      rw [show (((k + 1 : Nat) : Int) - 1) = (k : Int) by omega]
      have b0 : (0 : Int) ≤ (k : Int) := by omega
      have b1 : (k : Int) < (n : Int) := by omega
      have kA : k < A.length := by rw [hn.out]; omega
      have kB : k < B.length := by have q1 := HL.out; have q2 := hn.out; omega
      have m2 : IntKind.i64.wrap ((k : Int) - 1) = (k : Int) - 1 := by rw [IntKind.wrap_i64]; omega
      have B2 := hid (HB.out.trans (hw'.out.mono HB.out.size))
      obtain ⟨x, rfl, xb, hx⟩ := Ha.out k A[k] (List.getElem?_eq_getElem kA)
      rw [← B2.out.cell (p := x.add k) (by rw [addr_block]; exact xb)] at hx
      obtain ⟨y, rfl, yb, hy⟩ := Hd.out k B[k] (List.getElem?_eq_getElem kB)
      rw [← B2.out.cell (p := y.add k) (by rw [addr_block]; exact yb)] at hy
      rw [svS] at hx hy
      have hdn := Tree.hi_down HL.out kA
      by_cases he : A[k] = B[k]
      · rw [if_pos he] at hdn
        have hq' : Hid (hiO A B = hiO (A.take k) (B.take k)) := by rw [Hid, hq.out]; unfold hiO; rw [hdn]
        rw [← he] at hy
        generalize ByteArray.mk (A[k]).toArray = p at *
        have y1 : (p.toList == p.toList) = true := by simp
        have y2 : (p.toList != p.toList) = false := by simp
        clear hq he hdn
        go_wp2
        go_quiet (fail)
        go_wp2
        exact ⟨⟨k, by omega, by first | rfl | rw [m2], hq', hid (below_drewN hw'.out _)⟩, by simp [intOf]⟩
      · rw [if_neg he] at hdn
        have HR2 := hid ((hw'.out.block _ (lt_of_heap HR.out)).trans HR.out)
        have HO2 : Hid (hiO A B = ((A[k], B[k]), 0)) := by rw [Hid, hq.out]; unfold hiO; rw [hdn]
        have hne : (A[k] == B[k]) = false := by simpa using he
        generalize hp : A[k] = p at *
        generalize hq2 : B[k] = q at *
        clear hq he hdn
        have y1 : ((ByteArray.mk p.toArray).toList == (ByteArray.mk q.toArray).toList) = false := by rw [ByteArray.toList_eq, ByteArray.toList_eq]; exact hne
        have y2 : ((ByteArray.mk p.toArray).toList != (ByteArray.mk q.toArray).toList) = true := by rw [bne, y1]; rfl
        go_wp2
        go_quiet (fail)
        go_wp2
        have S0 : wr.cell? (x.add k) = some (.string ⟨p.toArray⟩) ∧ wr.cell? (y.add k) = some (.string ⟨q.toArray⟩) := ⟨hx, hy⟩
        have S1 : ∀ (m : Nat) (u v : Value), (((wr.drewN m).setCell ⟨w.heap.size, 0, none⟩ u).setCell ⟨w.heap.size, 1, none⟩ v).cell? (x.add k) = some (.string ⟨p.toArray⟩) ∧ (((wr.drewN m).setCell ⟨w.heap.size, 0, none⟩ u).setCell ⟨w.heap.size, 1, none⟩ v).cell? (y.add k) = some (.string ⟨q.toArray⟩) := fun m u v => by
          have bb : Below w.heap.size wr (((wr.drewN m).setCell ⟨w.heap.size, 0, none⟩ u).setCell ⟨w.heap.size, 1, none⟩ v) := ((below_drewN (Below.refl w.heap.size wr) m).setCell (p := ⟨w.heap.size, 0, none⟩) (Nat.le_refl _) u).setCell (p := ⟨w.heap.size, 1, none⟩) (Nat.le_refl _) v
          exact ⟨(bb.cell (p := x.add k) (by rw [addr_block]; exact xb)).trans hx, (bb.cell (p := y.add k) (by rw [addr_block]; exact yb)).trans hy⟩
        have HRm : Hid (∀ (m : Nat) (u v : Value), (((wr.drewN m).setCell ⟨w.heap.size, 0, none⟩ u).setCell ⟨w.heap.size, 1, none⟩ v).heap[w.heap.size]? = some (.cells #[u, v] 26 (0, 0))) := fun m u v => heap_setCell_same _ _ 1 _ _ _ (heap_setCell_same (wr.drewN m) _ 0 _ _ _ HR2.out)
        have HBm : Hid (∀ (m : Nat) (u v : Value), Below w.heap.size w (((wr.drewN m).setCell ⟨w.heap.size, 0, none⟩ u).setCell ⟨w.heap.size, 1, none⟩ v)) := fun m u v => ((below_drewN B2.out m).setCell (p := ⟨w.heap.size, 0, none⟩) (Nat.le_refl _) u).setCell (p := ⟨w.heap.size, 1, none⟩) (Nat.le_refl _) v
        have c0 : wr.cell? ⟨w.heap.size, 0, none⟩ = some (.string ⟨#[]⟩) := by rw [cell_of_row _ _ _ _ _ _ HR2.out]; rfl
        have c1 : wr.cell? ⟨w.heap.size, 1, none⟩ = some (.string ⟨#[]⟩) := by rw [cell_of_row _ _ _ _ _ _ HR2.out]; rfl
        have f0 : wr.frozen? ⟨w.heap.size, 0, none⟩ = false := frozen_of_row _ _ _ _ _ HR2.out
        have f1 : wr.frozen? ⟨w.heap.size, 1, none⟩ = false := frozen_of_row _ _ _ _ _ HR2.out
        go_region_held3 (fun w' => w'.cell? (x.add k) = some (.string ⟨p.toArray⟩) ∧ w'.cell? (y.add k) = some (.string ⟨q.toArray⟩)) (first | exact S0 | exact S1 _ _ _) (fail)
        clear S0 S1 c0 c1 f0 f1
        go_wp2
        refine bodyPost_ret (results_row6 rfl _ _ (w.heap.size) 26 _ (0, 0) _ rfl (HRm.out _ _ _) Tryz.underlying26 rfl sizePr) rfl ?_
        exact ⟨by rw [HO2.out]; rfl, HBm.out _ _ _⟩
end Go.Proofs.YthoekndjeclimaaGreatDoor

namespace Go.Proofs.YthoekndjeclimaaGreatDoor
open Go.RowKit
theorem dn_rev {N M : Nat} (h : M < N) : (Tree.dn N 0 N M (M + 1)).reverse.map (·.2.2) = Tree.D N M := by
  rw [List.map_reverse, Tree.dn_D N 0 N M (Nat.le_refl _) (Nat.zero_le _) (by omega), List.reverse_reverse, Nat.sub_zero]
theorem dn_rlen {N M : Nat} (h : M < N) : (Tree.dn N 0 N M (M + 1)).length = (Tree.D N M).length := by
  have := congrArg List.length (dn_rev h)
  rwa [List.length_map, List.length_reverse] at this
/-- a list that came out, for what reads it -/
theorem own_at {w : World} {B : Nat} {v : Value} {L : List (List UInt8)} (h : Own w B v (svs L)) : ∃ a c, v = .slice a L.length c ∧ At w a L := by
  rcases h with ⟨rfl, h⟩ | ⟨g, cap, rfl, h1, h2, h3, h4, h5, h6⟩
  · obtain rfl : L = [] := by simpa [svs] using h
    exact ⟨none, 0, rfl, At.nil _ _⟩
  · refine ⟨some ⟨g, 0, none⟩, cap, by rw [svs_length], fun j p hp => ⟨_, rfl, h6, ?_⟩⟩
    rw [Addr.add_mid]
    exact h4 j (sv p) (by simp [svs, hp])
set_option maxRecDepth 100000 in
set_option maxHeartbeats 4000000 in
theorem r6Inclusion_any (n m : Int) (root leaf : List UInt8) (path : List (List UInt8)) (other : List UInt8) (way : List (List UInt8)) (a d : Option Addr) (ca cd : Nat) (w : World) (ha : At w a path) (hd : At w d way) (lA : path.length ≤ ca ∧ ca ≤ 9223372036854775807) (lB : way.length ≤ cd ∧ cd ≤ 9223372036854775807) :
    Calls Tryz.prog 7 #[.int .i64 n, .int .i64 m, .string ⟨root.toArray⟩, .string ⟨leaf.toArray⟩, .slice a path.length ca, .string ⟨other.toArray⟩, .slice d way.length cd] w fun e w' => e = .returned (.tuple #[prP (incO n m root leaf path other way).1.1 (incO n m root leaf path other way).1.2, .int .i64 (incO n m root leaf path other way).2]) ∧ Below w.heap.size w w' := by
  have z1 := size_alloc w (.cells #[Value.string ⟨#[]⟩, .string ⟨#[]⟩] 26)
  have al := (Below.refl w.heap.size w).alloc (Nat.le_refl _) (.cells #[Value.string ⟨#[]⟩, .string ⟨#[]⟩] 26)
  have R0 := heap_alloc_new w (.cells #[Value.string ⟨#[]⟩, .string ⟨#[]⟩] 26)
  obtain ⟨w0, hw0⟩ : ∃ w0, w.alloc (.cells #[Value.string ⟨#[]⟩, .string ⟨#[]⟩] 26) = w0 := ⟨_, rfl⟩
  rw [hw0] at al R0 z1
  have HR := hid R0
  have HB := hid al
  have Ha := hid (ha.below al (Nat.le_refl _))
  have Hd := hid (hd.below al (Nat.le_refl _))
  have i1 := rInclusion_any n m leaf path root a ca w0 lA.1 lA.2 Ha.out
  have i2 := fun w' (hb : Below w0.heap.size w0 w') => rInclusion_any n m other way root d cd w' lB.1 lB.2 (Hd.out.below hb (Nat.le_refl _))
  rw [svS leaf, svS root] at i1
  rw [svS other, svS root] at i2
  have i3 := fun w' (hb : Below w0.heap.size w0 w') => same6_any path way a d ca cd w' (Ha.out.below hb (Nat.le_refl _)) (Hd.out.below hb (Nat.le_refl _)) (by omega) (by omega)
  obtain ⟨za, hza⟩ : ∃ z, Hid (incOf4 n m leaf path root = z) := ⟨_, rfl⟩
  obtain ⟨zb, hzb⟩ : ∃ z, Hid (incOf4 n m other way root = z) := ⟨_, rfl⟩
  rw [hza.out] at i1
  rw [hzb.out] at i2
  obtain ⟨nA, hnA⟩ : ∃ n, Hid (path.length = n) := ⟨_, rfl⟩
  obtain ⟨nB, hnB⟩ : ∃ n, Hid (way.length = n) := ⟨_, rfl⟩
  clear al R0 ha hd
  by_cases h0 : za = 0
  · by_cases h1 : zb = 0
    · subst h0 h1
      obtain ⟨N, M, rfl, rfl, I1⟩ := Inc.of hza.out
      obtain ⟨N', M', e1, e2, I2⟩ := Inc.of hzb.out
      obtain rfl : N' = N := by omega
      obtain rfl : M' = M := by omega
      have HO : Hid (incO (N' : Int) (M' : Int) root leaf path other way = if leaf = other ∧ path = way then (([], []), (60 : Int)) else hiO (Tree.txs leaf (Tree.D N' M') path) (Tree.txs other (Tree.D N' M') way)) := by
        unfold incO hiO; exact if_pos ⟨hza.out, hzb.out⟩
      clear e1 e2 hza hzb
      by_cases hp : path = way ∧ leaf = other
      · rw [if_pos ⟨hp.2, hp.1⟩] at HO
        have e1 : (leaf == other) = true := by simpa using hp.2
        rw [decide_eq_true hp.1] at i3
        rw [hnA.out] at i1 i3 ⊢
        rw [hnB.out] at i2 i3 ⊢
        clear hp I1 I2
        go_enter Tryz.func7, Tryz.ntmps7
        go_wp2_with (first
          | (go_at_call 25; (with_reducible refine i1.mono ?_); rintro e w1 ⟨rfl, b1⟩)
          | (go_at_call 25; (with_reducible refine (i2 w1 b1).mono ?_); rintro e w2 ⟨rfl, b2⟩; have B2 := hid (b1.trans (b2.mono b1.size)))
          | (go_at_call 26; (with_reducible refine (i3 w2 B2.out).mono ?_); rintro e w3 ⟨rfl, b3⟩; have B3 := hid (B2.out.trans (b3.mono B2.out.size)); have HR2 := hid ((B3.out.block _ (lt_of_heap HR.out)).trans HR.out); have HB2 := hid (HB.out.trans (B3.out.mono HB.out.size)))
          | ((with_reducible show wpList _ _ _ (Oper.mk _ (Op.store 26 _ _) _ _ _ _ :: _) _ _); go_must (refine wpList_store_row rfl 26 _ _ rfl (w.heap.size) _ rfl rfl 26 _ HR2.out sizePr rfl (onePr [] []) ?_)))
        refine bodyPost_ret (results_row6 rfl _ _ (w.heap.size) 26 _ (0, 0) _ rfl (setRow_heap _ _ _ _ _ _ HR2.out) Tryz.underlying26 rfl sizePr) rfl ?_
        exact ⟨by rw [HO.out]; rfl, Below.setRow HB2.out (by omega) _⟩
      · rw [if_neg fun h => hp ⟨h.2, h.1⟩] at HO
        have dl := dn_rev I1.lt
        have dl2 := dn_rlen I1.lt
        have dD := D_len I1.le I1.lt
        have i4 := fun w' : World => r6steps_any N' M' (M' + 1) w' I1.le (by have := I1.lt; have := I1.le; omega) (by have := I1.lt; have := I1.le; omega) (by omega)
        have i5 := fun (v : Value) (B : Nat) (w' : World) (hS : Sts w' B v (Tree.dn N' 0 N' M' (M' + 1)).reverse) (hA : At w' a path) => r6texts_any _ leaf path v B a ca w' hS hA (by rw [List.length_reverse, dl2]; exact I1.len) (by rw [List.length_reverse]; omega) I1.l32 I1.hs
        have i6 := fun (v : Value) (B : Nat) (w' : World) (hS : Sts w' B v (Tree.dn N' 0 N' M' (M' + 1)).reverse) (hA : At w' d way) => r6texts_any _ other way v B d cd w' hS hA (by rw [List.length_reverse, dl2]; exact I2.len) (by rw [List.length_reverse]; omega) I2.l32 I2.hs
        rw [dl] at i5 i6
        rw [show ((M' + 1 : Nat) : Int) = (M' : Int) + 1 by omega] at i4
        have t1 := Tree.txs_length leaf (Tree.D N' M') path I1.len.symm
        have t2 := Tree.txs_length other (Tree.D N' M') way I2.len.symm
        have hM1 : (M' : Int) + 1 ≤ 9223372036854775807 := by have := I1.lt; have := I1.le; omega
        obtain ⟨z, hz⟩ : ∃ z, decide (path = way) = z := ⟨_, rfl⟩
        rw [hz] at i3
        have hzo : z = true → (leaf == other) = false := fun h => by
          subst h
          simpa using fun e => hp ⟨of_decide_eq_true hz, e⟩
        rw [hnA.out] at i1 i3 i5 ⊢
        rw [hnB.out] at i2 i3 i6 ⊢
        generalize Tree.txs leaf (Tree.D N' M') path = X at *
        generalize Tree.txs other (Tree.D N' M') way = Y at *
        generalize (Tree.dn N' 0 N' M' (M' + 1)).reverse = L at *
        have i7 := fun (a b : Option Addr) (ca cb : Nat) (w' : World) (hX : At w' a X) (hY : At w' b Y) => r6highest_any X Y a b ca cb w' hX hY (by omega) (by omega)
        clear hp I1 I2 dl dl2 hz t1 t2 dD
        cases z with
        | true =>
          have e1 := hzo rfl
          go_enter Tryz.func7, Tryz.ntmps7
          go_wp2_with (first
            | (go_at_call 25; (with_reducible refine i1.mono ?_); rintro e w1 ⟨rfl, b1⟩)
            | (go_at_call 25; (with_reducible refine (i2 w1 b1).mono ?_); rintro e w2 ⟨rfl, b2⟩; have B2 := hid (b1.trans (b2.mono b1.size)))
            | (go_at_call 26; (with_reducible refine (i3 w2 B2.out).mono ?_); rintro e w3 ⟨rfl, b3⟩; have B3 := hid (B2.out.trans (b3.mono B2.out.size)))
            | (go_at_call 27; fail))
          with_reducible refine (i4 w3).mono ?_
          rintro e w4 ⟨v, rfl, S4, b4⟩
          have B4 := hid (B3.out.trans (b4.mono B3.out.size))
          have S4 := hid S4
          obtain ⟨sa, sc, rfl, _, _⟩ := S4.out.1.shape
          have j5 := i5 _ _ w4 S4.out (Ha.out.below B4.out (Nat.le_refl _))
          clear i1 i2 i3 i4 i5 b1 b2 b3 b4 B2 B3
          go_wp2_with (go_at_call 29; fail)
          with_reducible refine j5.mono ?_
          rintro e w5 ⟨v5, rfl, O5, b5⟩
          have B5 := hid (B4.out.trans (b5.mono B4.out.size))
          have O5 := hid O5
          have j6 := i6 _ _ w5 (S4.out.below b5) (Hd.out.below B5.out (Nat.le_refl _))
          obtain ⟨a5, c5, rfl, _⟩ := own_at O5.out
          clear i6 j5 b5 B4
          go_wp2_with (go_at_call 29; fail)
          with_reducible refine j6.mono ?_
          rintro e w6 ⟨v6, rfl, O6, b6⟩
          have B6 := hid (B5.out.trans (b6.mono B5.out.size))
          have O6 := hid O6
          obtain ⟨a6, c6, rfl, A6⟩ := own_at O6.out
          obtain ⟨a5', c5', e5, A5⟩ := own_at (O5.out.below b6 (Nat.le_refl _))
          have j7 := i7 a5' a6 c5' c6 w6 A5 A6
          rw [← e5] at j7
          clear i7 j6 b6 B5
          go_wp2_with (go_at_call 28; fail)
          with_reducible refine j7.mono ?_
          rintro e w7 ⟨rfl, b7⟩
          have B7 := hid (B6.out.trans (b7.mono B6.out.size))
          have HR2 := hid ((B7.out.block _ (lt_of_heap HR.out)).trans HR.out)
          have HB2 := hid (HB.out.trans (B7.out.mono HB.out.size))
          generalize hiO X Y = o at *
          obtain ⟨⟨p, q⟩, z⟩ := o
          clear j7 b7 B6
          go_wp2_with ((with_reducible show wpList _ _ _ (Oper.mk _ (Op.store 26 _ _) _ _ _ _ :: _) _ _); go_must (refine wpList_store_row rfl 26 _ _ rfl (w.heap.size) _ rfl rfl 26 _ HR2.out sizePr rfl (onePr p q) ?_))
          refine bodyPost_ret (results_row6 rfl _ _ (w.heap.size) 26 _ (0, 0) _ rfl (setRow_heap _ _ _ _ _ _ HR2.out) Tryz.underlying26 rfl sizePr) rfl ?_
          exact ⟨by rw [HO.out]; rfl, Below.setRow HB2.out (by omega) _⟩
        | false =>
          clear hzo
          go_enter Tryz.func7, Tryz.ntmps7
          go_wp2_with (first
            | (go_at_call 25; (with_reducible refine i1.mono ?_); rintro e w1 ⟨rfl, b1⟩)
            | (go_at_call 25; (with_reducible refine (i2 w1 b1).mono ?_); rintro e w2 ⟨rfl, b2⟩; have B2 := hid (b1.trans (b2.mono b1.size)))
            | (go_at_call 26; (with_reducible refine (i3 w2 B2.out).mono ?_); rintro e w3 ⟨rfl, b3⟩; have B3 := hid (B2.out.trans (b3.mono B2.out.size)))
            | (go_at_call 27; fail))
          with_reducible refine (i4 w3).mono ?_
          rintro e w4 ⟨v, rfl, S4, b4⟩
          have B4 := hid (B3.out.trans (b4.mono B3.out.size))
          have S4 := hid S4
          obtain ⟨sa, sc, rfl, _, _⟩ := S4.out.1.shape
          have j5 := i5 _ _ w4 S4.out (Ha.out.below B4.out (Nat.le_refl _))
          clear i1 i2 i3 i4 i5 b1 b2 b3 b4 B2 B3
          go_wp2_with (go_at_call 29; fail)
          with_reducible refine j5.mono ?_
          rintro e w5 ⟨v5, rfl, O5, b5⟩
          have B5 := hid (B4.out.trans (b5.mono B4.out.size))
          have O5 := hid O5
          have j6 := i6 _ _ w5 (S4.out.below b5) (Hd.out.below B5.out (Nat.le_refl _))
          obtain ⟨a5, c5, rfl, _⟩ := own_at O5.out
          clear i6 j5 b5 B4
          go_wp2_with (go_at_call 29; fail)
          with_reducible refine j6.mono ?_
          rintro e w6 ⟨v6, rfl, O6, b6⟩
          have B6 := hid (B5.out.trans (b6.mono B5.out.size))
          have O6 := hid O6
          obtain ⟨a6, c6, rfl, A6⟩ := own_at O6.out
          obtain ⟨a5', c5', e5, A5⟩ := own_at (O5.out.below b6 (Nat.le_refl _))
          have j7 := i7 a5' a6 c5' c6 w6 A5 A6
          rw [← e5] at j7
          clear i7 j6 b6 B5
          go_wp2_with (go_at_call 28; fail)
          with_reducible refine j7.mono ?_
          rintro e w7 ⟨rfl, b7⟩
          have B7 := hid (B6.out.trans (b7.mono B6.out.size))
          have HR2 := hid ((B7.out.block _ (lt_of_heap HR.out)).trans HR.out)
          have HB2 := hid (HB.out.trans (B7.out.mono HB.out.size))
          generalize hiO X Y = o at *
          obtain ⟨⟨p, q⟩, z⟩ := o
          clear j7 b7 B6
          go_wp2_with ((with_reducible show wpList _ _ _ (Oper.mk _ (Op.store 26 _ _) _ _ _ _ :: _) _ _); go_must (refine wpList_store_row rfl 26 _ _ rfl (w.heap.size) _ rfl rfl 26 _ HR2.out sizePr rfl (onePr p q) ?_))
          refine bodyPost_ret (results_row6 rfl _ _ (w.heap.size) 26 _ (0, 0) _ rfl (setRow_heap _ _ _ _ _ _ HR2.out) Tryz.underlying26 rfl sizePr) rfl ?_
          exact ⟨by rw [HO.out]; rfl, Below.setRow HB2.out (by omega) _⟩
    · have e1 : (zb != 0) = true := by simpa using h1
      have HO2 : Hid (incO n m root leaf path other way = (([], []), 61)) := by
        unfold incO; exact if_neg fun h => h1 (hzb.out.symm.trans h.2)
      subst h0
      rw [hnA.out] at i1 ⊢
      rw [hnB.out] at i2 ⊢
      clear h1 i3 hza hzb
      go_enter Tryz.func7, Tryz.ntmps7
      go_wp2_with (first
      | (go_at_call 25; (with_reducible refine i1.mono ?_); rintro e w1 ⟨rfl, b1⟩)
      | (go_at_call 25; (with_reducible refine (i2 w1 b1).mono ?_); rintro e w2 ⟨rfl, b2⟩; have B2 := hid (b1.trans (b2.mono b1.size)); have HR2 := hid ((B2.out.block _ (lt_of_heap HR.out)).trans HR.out); have HB2 := hid (HB.out.trans (B2.out.mono HB.out.size)))
      | ((with_reducible show wpList _ _ _ (Oper.mk _ (Op.store 26 _ _) _ _ _ _ :: _) _ _); go_must (refine wpList_store_row rfl 26 _ _ rfl (w.heap.size) _ rfl rfl 26 _ HR2.out sizePr rfl (onePr [] []) ?_)))
      refine bodyPost_ret (results_row6 rfl _ _ (w.heap.size) 26 _ (0, 0) _ rfl (setRow_heap _ _ _ _ _ _ HR2.out) Tryz.underlying26 rfl sizePr) rfl ?_
      exact ⟨by rw [HO2.out]; rfl, Below.setRow HB2.out (by omega) _⟩
  · have e1 : (za != 0) = true := by simpa using h0
    have HO2 : Hid (incO n m root leaf path other way = (([], []), 61)) := by
      unfold incO; exact if_neg fun h => h0 (hza.out.symm.trans h.1)
    rw [hnA.out] at i1 ⊢
    rw [hnB.out] at i2 ⊢
    clear h0 i3 hza hzb
    go_enter Tryz.func7, Tryz.ntmps7
    go_wp2_with (first
      | (go_at_call 25; (with_reducible refine i1.mono ?_); rintro e w1 ⟨rfl, b1⟩)
      | (go_at_call 25; (with_reducible refine (i2 w1 b1).mono ?_); rintro e w2 ⟨rfl, b2⟩; have B2 := hid (b1.trans (b2.mono b1.size)); have HR2 := hid ((B2.out.block _ (lt_of_heap HR.out)).trans HR.out); have HB2 := hid (HB.out.trans (B2.out.mono HB.out.size)))
      | ((with_reducible show wpList _ _ _ (Oper.mk _ (Op.store 26 _ _) _ _ _ _ :: _) _ _); go_must (refine wpList_store_row rfl 26 _ _ rfl (w.heap.size) _ rfl rfl 26 _ HR2.out sizePr rfl (onePr [] []) ?_)))
    refine bodyPost_ret (results_row6 rfl _ _ (w.heap.size) 26 _ (0, 0) _ rfl (setRow_heap _ _ _ _ _ _ HR2.out) Tryz.underlying26 rfl sizePr) rfl ?_
    exact ⟨by rw [HO2.out]; rfl, Below.setRow HB2.out (by omega) _⟩
end Go.Proofs.YthoekndjeclimaaGreatDoor
