import Derived.Test.YtdmaiodckialmaaDoorCSF3
import Derived.Test.YtdmaiodckialmaaDoorCI1
import Derived.Test.YtdmaiodckialmaaDoorCO1
namespace Go.Proofs.YtdmaiodckialmaaDoor
open Go.RowKit Go.Shelf
namespace Tree
/-- two subtrees: one is within the other, or they share no leaf -/
theorem insF_lam : ∀ (f b n x y x' y' : Nat), 1 ≤ n → insF f b n x y = true → insF f b n x' y' = true → y ≤ x' ∨ y' ≤ x ∨ (x ≤ x' ∧ y' ≤ y) ∨ (x' ≤ x ∧ y ≤ y')
  | 0, _, _, _, _, _, _, _, h, _ => by cases h
  | f + 1, b, n, x, y, x', y', h1, h, h' => by
    have i1 := insF_in _ _ _ _ _ h h1
    have i2 := insF_in _ _ _ _ _ h' h1
    rw [insF] at h h'
    split at h
    · omega
    · split at h'
      · omega
      · split at h
        · cases h
        · rename_i h2
          rw [if_neg h2] at h'
          have s1 := sp_lt (n := n) (by omega)
          have s2 := sp_pos (n := n) (by omega)
          split at h
          · split at h'
            · exact insF_lam f b (sp n) x y x' y' (by omega) h h'
            · split at h'
              · omega
              · cases h'
          · split at h
            · split at h'
              · omega
              · split at h'
                · exact insF_lam f (b + sp n) (n - sp n) x y x' y' (by omega) h h'
                · cases h'
            · cases h
end Tree
set_option maxRecDepth 100000 in
set_option maxHeartbeats 2000000 in
theorem rMiddle_at (b e m : Nat) (h2 : 2 ≤ e - b) (he : e ≤ 1099511627776) (hm : Hid (m = b + Tree.sp (e - b))) (w : World) :
    Calls Tryd.prog 24 #[sg b e] w fun r w' => r = .returned (.int .i64 (m : Int)) ∧ Below w.heap.size w w' := by
  obtain ⟨n, hn⟩ : ∃ n, Hid (e - b = n) := ⟨_, rfl⟩
  have S0 := SpI.new w b e
  have B0 := (Below.refl _ w).alloc (Nat.le_refl _) (.cells #[.int .i64 (b : Int), .int .i64 (e : Int)] 25)
  have c0 := S0.c0
  have c1 := S0.c1
  have hn2 : 2 ≤ n := by rw [← hn.out]; exact h2
  have hn3 : n ≤ 1099511627776 := by have := hn.out; omega
  have q0 : (e : Int) - (b : Int) = (n : Int) := by have := hn.out; omega
  have q1 : IntKind.i64.wrap ((e : Int) - (b : Int)) = (n : Int) := by rw [IntKind.wrap_i64]; omega
  rw [hn.out] at hm
  go_enter Tryd.func24, Tryd.ntmps24
  go_wp2
  clear q0 q1
  go_loopw [4] (fun k w' => ∃ a x : Nat, Hid (2 ^ a = x) ∧ k = .int .i64 (x : Int) ∧ x < n ∧ 0 < x ∧ w' = w.alloc (.cells #[.int .i64 (b : Int), .int .i64 (e : Int)] 25)) (fun k _ => n - (intOf k).toNat)
  case atStart => exact ⟨0, 1, rfl, rfl, by omega, by omega, rfl⟩
  case round =>
    obtain ⟨a, x, hx, rfl, hlt, hpos, rfl⟩ := hrel
    by_cases hk : 2 * (x : Int) < n
    · go_wp2
      exact ⟨⟨a + 1, 2 * x, by rw [Hid, Nat.pow_succ, hx.out, Nat.mul_comm], by go_num, by omega, by omega, trivial⟩, by simp [intOf]; omega⟩
    · have em := hid (show Tree.sp n = x by rw [Tree.sp_one hn2 a (by rw [hx.out]; omega) (by rw [hx.out]; omega), hx.out])
      have q2 : IntKind.i64.wrap ((b : Int) + (x : Int)) = (m : Int) := by rw [hm.out, em.out, IntKind.wrap_i64]; have := hn.out; omega
      go_wp2
      go_ret
      exact ⟨rfl, B0⟩
end Go.Proofs.YtdmaiodckialmaaDoor

namespace Go.Proofs.YtdmaiodckialmaaDoor
open Go.RowKit Go.Shelf
theorem SpI.set0 {w : World} {g : Nat} {b e : Int} (h : SpI w g b e) (b' : Int) : SpI (w.setCell ⟨g, 0, none⟩ (.int .i64 b')) g b' e := heap_setCell_same w g 0 _ _ _ h
theorem SpI.set1 {w : World} {g : Nat} {b e : Int} (h : SpI w g b e) (e' : Int) : SpI (w.setCell ⟨g, 1, none⟩ (.int .i64 e')) g b e' := heap_setCell_same w g 1 _ _ _ h
/-- a subtree of [0, n), as values -/
def BelP (n : Nat) (w : World) (r : Ending) (w' : World) : Prop := ∃ b e : Nat, r = .returned (sg b e) ∧ Tree.insF n 0 n b e = true ∧ Below w.heap.size w w'
set_option maxRecDepth 100000 in
set_option maxHeartbeats 4000000 in
theorem below8_any (n : Nat) (way : Int) (hn : 1 ≤ n) (hn2 : n ≤ 1099511627776) (hw1 : -9223372036854775808 ≤ way) (hw2 : way ≤ 9223372036854775807) (w : World) :
    Calls Tryd.prog 10 #[.int .i64 (n : Int), .int .i64 way] w (BelP n w) := by
  have R0 := SpI.new w 0 0
  have b1 := (Below.refl _ w).alloc (Nat.le_refl _) (.cells #[.int .i64 0, .int .i64 0] 25)
  have hbA := (Below.refl _ (w.alloc (.cells #[.int .i64 0, .int .i64 0] 25))).alloc (Nat.le_refl _) (.cells #[.int .i64 0, .int .i64 (n : Int)] 25)
  have S0 := SpI.new (w.alloc (.cells #[.int .i64 0, .int .i64 0] 25)) 0 n
  rw [size_alloc] at S0
  have R1 := hid (R0.below hbA)
  have B1 := hid (b1.trans (hbA.mono b1.size))
  have S0 := hid S0
  clear hbA b1 R0
  go_enter Tryd.func10, Tryd.ntmps10
  go_wp2
  go_loopw [1] (fun v wr => ∃ (x : Int) (b e : Nat), v = .int .i64 x ∧ -9223372036854775808 ≤ x ∧ x ≤ 9223372036854775807 ∧ Hid (Tree.insF n 0 n b e = true) ∧ Hid (SpI wr (w.heap.size + 1) b e) ∧ Hid (SpI wr w.heap.size 0 0) ∧ Hid (Below w.heap.size w wr)) (fun _ wr => memN wr (w.heap.size + 1) 1 - memN wr (w.heap.size + 1) 0)
  case atStart => exact ⟨way, 0, n, rfl, hw1, hw2, by unfold Hid; have := Tree.insF_self (f := n - 1) (b := 0) (n := n); rwa [Nat.zero_add, show n - 1 + 1 = n by omega] at this, S0, R1, B1⟩
  case round =>
    clear S0 R1 B1
    obtain ⟨x, b, e, rfl, hx1, hx2, hI, hS, hR, hB⟩ := hrel
    have hin := Tree.insF_in _ _ _ _ _ hI.out hn
    have c0 := hS.out.c0
    have c1 := hS.out.c1
    have r0 := hR.out.c0
    have r1 := hR.out.c1
    have rf0 := hR.out.f0
    have rf1 := hR.out.f1
    have d1 : memN wr (w.heap.size + 1) 1 = e := by unfold memN; rw [hS.out.c1]; exact Int.toNat_natCast _
    have d0 : memN wr (w.heap.size + 1) 0 = b := by unfold memN; rw [hS.out.c0]; exact Int.toNat_natCast _
    have d1 := hid d1
    have d0 := hid d0
    obtain ⟨L, hL⟩ : ∃ L : Nat, (e : Int) - (b : Int) = (L : Int) := ⟨e - b, by omega⟩
    have hLw : IntKind.i64.wrap ((e : Int) - (b : Int)) = (L : Int) := by rw [IntKind.wrap_i64]; omega
    by_cases hgo : (1 : Int) < x ∧ (1 : Int) < (L : Int)
    · have g1 : (1 : Int) < x := hgo.1
      have g2 : (1 : Int) < (L : Int) := hgo.2
      obtain ⟨m, hm⟩ : ∃ m, Hid (m = b + Tree.sp (e - b)) := ⟨_, rfl⟩
      have s1 := Tree.sp_lt (n := e - b) (by omega)
      have s2 := Tree.sp_pos (n := e - b) (by omega)
      have i1 := rMiddle_at b e m (by omega) (by omega) hm wr
      obtain ⟨p1, p2⟩ := Tree.insF_parts n 0 n b e (Nat.le_refl _) hn hI.out (by omega)
      rw [← hm.out] at p1 p2
      have hme : b < m ∧ m < e := by have := hm.out; omega
      have p1 := hid p1
      have p2 := hid p2
      have f0 := hS.out.f0
      have f1 := hS.out.f1
      clear hgo
      obtain ⟨y, hy⟩ : ∃ y : Int, x.tdiv 2 = y := ⟨_, rfl⟩
      have hy1 : 0 ≤ y ∧ y ≤ x := by
        rw [← hy]
        have := Int.tdiv_eq_ediv_of_nonneg (a := x) (b := 2) (by omega)
        omega
      have hyw : IntKind.i64.wrap y = y := by rw [IntKind.wrap_i64]; omega
      have hB2 : Hid (w.heap.size ≤ w.heap.size + 1) := Nat.le_succ _
      obtain ⟨t, htt⟩ : ∃ t : Int, Int.tmod x 2 = t := ⟨_, rfl⟩
      by_cases ht : t = 0
      · subst ht
        go_wp2_with (go_at_call 24; refine i1.mono ?_; rintro r w2 ⟨rfl, hw2⟩; have S2 := hid (hS.out.below hw2); have R2 := hid (hR.out.below hw2); have B2 := hid (hB.out.trans (hw2.mono hB.out.size)); have t1 := S2.out.c1; have u1 := S2.out.f1; clear hw2)
        have S3 := S2.out.set1 (m : Int)
        refine ⟨⟨y, b, m, by simp, by omega, by omega, p1, S3, R2.out.far (w.heap.size + 1) 1 _ (by omega), B2.out.setCell (p := ⟨w.heap.size + 1, 1, none⟩) hB2.out _⟩, ?_⟩
        have e1 : memN (w2.setCell ⟨w.heap.size + 1, 1, none⟩ (.int .i64 (m : Int))) (w.heap.size + 1) 1 = m := by unfold memN; rw [S3.c1]; exact Int.toNat_natCast _
        have e0 : memN (w2.setCell ⟨w.heap.size + 1, 1, none⟩ (.int .i64 (m : Int))) (w.heap.size + 1) 0 = b := by unfold memN; rw [S3.c0]; exact Int.toNat_natCast _
        rw [e1, e0, d1.out, d0.out]
        omega
      · have ht' : (t == 0) = false := by simpa using ht
        go_wp2_with (go_at_call 24; refine i1.mono ?_; rintro r w2 ⟨rfl, hw2⟩; have S2 := hid (hS.out.below hw2); have R2 := hid (hR.out.below hw2); have B2 := hid (hB.out.trans (hw2.mono hB.out.size)); have t0 := S2.out.c0; have u0 := S2.out.f0; clear hw2)
        have S3 := S2.out.set0 (m : Int)
        refine ⟨⟨y, m, e, by simp, by omega, by omega, p2, S3, R2.out.far (w.heap.size + 1) 0 _ (by omega), B2.out.setCell (p := ⟨w.heap.size + 1, 0, none⟩) hB2.out _⟩, ?_⟩
        have e1 : memN (w2.setCell ⟨w.heap.size + 1, 0, none⟩ (.int .i64 (m : Int))) (w.heap.size + 1) 1 = e := by unfold memN; rw [S3.c1]; exact Int.toNat_natCast _
        have e0 : memN (w2.setCell ⟨w.heap.size + 1, 0, none⟩ (.int .i64 (m : Int))) (w.heap.size + 1) 0 = m := by unfold memN; rw [S3.c0]; exact Int.toNat_natCast _
        rw [e1, e0, d1.out, d0.out]
        omega
    · have U := hR.out.two (b : Int) (e : Int)
      by_cases g1 : (1 : Int) < x
      · have g2 : ¬ (1 : Int) < (L : Int) := fun h => hgo ⟨g1, h⟩
        clear hgo
        go_wp2
        refine bodyPost_ret (v := sg b e) (results_cell_row rfl _ _ w.heap.size 25 #[.int .i64 (b : Int), .int .i64 (e : Int)] (0, 0) _ rfl U Tryd.underlying25 rfl sizeSp8) rfl ?_
        exact ⟨b, e, rfl, hI.out, (hB.out.setCell (p := ⟨w.heap.size, 0, none⟩) (Nat.le_refl _) _).setCell (p := ⟨w.heap.size, 1, none⟩) (Nat.le_refl _) _⟩
      · clear hgo
        go_wp2
        refine bodyPost_ret (v := sg b e) (results_cell_row rfl _ _ w.heap.size 25 #[.int .i64 (b : Int), .int .i64 (e : Int)] (0, 0) _ rfl U Tryd.underlying25 rfl sizeSp8) rfl ?_
        exact ⟨b, e, rfl, hI.out, (hB.out.setCell (p := ⟨w.heap.size, 0, none⟩) (Nat.le_refl _) _).setCell (p := ⟨w.heap.size, 1, none⟩) (Nat.le_refl _) _⟩
end Go.Proofs.YtdmaiodckialmaaDoor

namespace Go.Proofs.YtdmaiodckialmaaDoor
open Go.RowKit Go.Shelf
theorem insB_of {n b e : Nat} (hn : 1 ≤ n) (hn2 : n ≤ 1099511627776) (h : Tree.insF n 0 n b e = true) : insB n b e = true := by
  have := Tree.insF_in _ _ _ _ _ h hn
  unfold insB
  rw [Int.toNat_natCast, Int.toNat_natCast, Int.toNat_natCast, h, decide_eq_true (by omega)]; rfl
end Go.Proofs.YtdmaiodckialmaaDoor

namespace Go.Proofs.YtdmaiodckialmaaDoor
open Go.RowKit
/-- V1 -/
def lenOf (n m : Int) : Int × Int := if n < 1 ∨ 1099511627776 < n then (0, 41) else if m < 0 ∨ n ≤ m then (0, 40) else ((Tree.D n.toNat m.toNat).length, 0)
/-- V1 -/
def prfLen (m n : Int) : Int × Int := if m < 1 ∨ n < m ∨ 1099511627776 < n then (0, 41) else (Tree.pl m.toNat n.toNat true, 0)
end Go.Proofs.YtdmaiodckialmaaDoor

namespace Go.Proofs.YtdmaiodckialmaaDoor
open Go.RowKit Go.Shelf
theorem infoI8 : (Tryd.prog.info? 3).map (fun i => (i.zero, i.size, i.bytes)) = some (some (.int .i64 0), 1, 8) := by kernel_rfl
def iv8 (L : List Int) : List Value := L.map (.int .i64)
theorem iv8_length (L : List Int) : (iv8 L).length = L.length := by simp [iv8]
/-- append(l, i) -/
theorem append_int8 (w : World) (base : Nat) (v : Value) (L : List Int) (p : Int) (hown : Own w base v (iv8 L)) (hlen : L.length ≤ 2000000) (hbase : base ≤ w.heap.size) :
    ∃ v' w', (Builtin.append_ #[26, 26] 26 #[v, .slice (some ⟨w.heap.size, 0, none⟩) 1 1]).run Tryd.prog (w.alloc (.cells #[.int .i64 p] 3)) = .ok v' w' ∧ Own w' base v' (iv8 (L ++ [p])) ∧ Below base w w' := by
  obtain ⟨i0, hi, hz0, hz1, hz2⟩ := info_parts infoI8
  have hsrc : Src Tryd.prog 1 26 (.slice (some ⟨w.heap.size, 0, none⟩) 1 1) 1 [.int .i64 p] (w.alloc (.cells #[.int .i64 p] 3)) :=
    Src.ofSlice _ Tryd.underlying26 ⟨w.heap.size, 0, none⟩ 1 1 [.int .i64 p] (by simp) (fun j u hj => by
      rw [Addr.add_mid, cell_of_row _ _ _ _ _ _ (heap_alloc_new w _), Nat.zero_add]; simpa using hj) (fun u hu => by simp at hu; subst hu; rfl)
  obtain ⟨v', w', h1, h2, h3, h4⟩ := run_append_O (P := Tryd.prog) (w.alloc (.cells #[.int .i64 p] 3)) base 26 26 26 3 i0 (.int .i64 0) Tryd.underlying26 hi hz0 hz1 rfl v (iv8 L) (hown.alloc _) _ 1 [.int .i64 p] hsrc
    (by rw [iv8_length, hz2]; omega) (by rw [iv8_length, maxLen]; omega) (by rw [size_alloc]; omega) (fun _ => by omega)
  refine ⟨v', w', h1, by simpa [iv8] using h2, ?_⟩
  exact ((Below.refl base w).alloc hbase _).trans (Below.ofGrown h3 hown.ge (by rw [size_alloc]; omega))
theorem Own.atI8 {w : World} {base : Nat} {v : Value} {L : List Int} (h : Own w base v (iv8 L)) : ∃ a cap, v = .slice a L.length cap ∧ AtI w a L ∧ L.length ≤ cap ∧ cap ≤ 9223372036854775807 := by
  rcases h with ⟨rfl, h⟩ | ⟨g, cap, rfl, h1, h2, h3, h4, h5, h6⟩
  · obtain rfl : L = [] := by simpa [iv8] using h
    exact ⟨none, 0, rfl, AtI.nil _ _, by simp, by omega⟩
  · rw [iv8_length] at h2
    refine ⟨some ⟨g, 0, none⟩, cap, by rw [iv8_length], fun j p hp => ⟨_, rfl, h6, ?_⟩, h2, h3⟩
    rw [Addr.add_mid]
    exact h4 j (.int .i64 p) (by simp [iv8, hp])
/-- numbers that rise, all of them below A -/
structure Rsn (L : List Int) (A : Nat) : Prop where
  so : L.Pairwise (· < ·)
  all : ∀ x ∈ L, 0 ≤ x ∧ x < (A : Int)
theorem Rsn.nil (A : Nat) : Rsn [] A := ⟨List.Pairwise.nil, fun x h => by cases h⟩
theorem Rsn.push {L : List Int} {A : Nat} (h : Rsn L A) (q : Nat) : Rsn (L ++ [((A + q : Nat) : Int)]) (A + q + 1) :=
  ⟨List.pairwise_append.2 ⟨h.so, List.pairwise_singleton _ _, fun a ha b hb => by
    obtain rfl := List.mem_singleton.1 hb
    have := (h.all a ha).2
    omega⟩, fun x hx => by
    rcases List.mem_append.1 hx with hx | hx
    · have := h.all x hx
      omega
    · obtain rfl := List.mem_singleton.1 hx
      omega⟩
theorem Rsn.ok {L : List Int} {A n : Nat} (h : Rsn L A) (hA : A ≤ n) (h1 : 1 ≤ n) (h2 : n ≤ 1099511627776) (l1 : 0 < L.length) (l2 : L.length ≤ 256) : BatOk n L := by
  have a0 := h.all L[0] (List.getElem_mem _)
  have a1 := h.all (L[L.length - 1]'(by omega)) (List.getElem_mem _)
  exact ⟨by omega, by omega, l1, l2, h.so, by rw [getD_at l1]; omega, by rw [getD_at l1]; omega, by rw [getD_at (by omega)]; omega, by rw [getD_at (by omega)]; omega⟩
/-- rising's answer -/
def RisP (n : Nat) (w : World) (r : Ending) (w' : World) : Prop := ∃ (a : Option Addr) (cap : Nat) (L : List Int), r = .returned (.slice a L.length cap) ∧ AtI w' a L ∧ BatOk n L ∧ Below w.heap.size w w'
set_option maxRecDepth 100000 in
set_option maxHeartbeats 4000000 in
theorem rising8_any (n : Nat) (cs : List Int) (a : Option Addr) (cap : Nat) (hn : 1 ≤ n) (hn2 : n ≤ 1099511627776) (hcs : cs.length ≤ 9223372036854775807) (hw : ∀ x ∈ cs, -9223372036854775808 ≤ x ∧ x ≤ 9223372036854775807) (w : World) (hA : AtI w a cs) :
    Calls Tryd.prog 7 #[.slice a cs.length cap, .int .i64 (n : Int), .int .i64 256] w (RisP n w) := by
  have HA := hid hA
  have HW := hid hw
  clear hA hw
  generalize hN : cs.length = N at *
  go_enter Tryd.func7, Tryd.ntmps7
  go_wp2
  go_loopw [7, 8, 9] (fun v t i w' => ∃ (L : List Int) (A k : Nat), Hid (L.length = k) ∧ t = .int .i64 (A : Int) ∧ i = .int .i64 (k : Int) ∧ A ≤ n ∧ k ≤ N ∧ k ≤ 256 ∧ Hid (Rsn L A) ∧ Hid (Own w' w.heap.size v (iv8 L)) ∧ Hid (Below w.heap.size w w')) (fun _ _ i _ => 256 - (intOf i).toNat)
  case atStart => exact ⟨[], 0, 0, rfl, rfl, rfl, by omega, by omega, by omega, Rsn.nil _, Own.nil _ _, Below.refl _ _⟩
  case round =>
    obtain ⟨L, A, k, hk, rfl, rfl, hAn, hkN, hk2, hR, hO, hB⟩ := hrel
    obtain ⟨oa, oc, hv, hat, -⟩ := hO.out.atI8
    rw [hk.out] at hv
    subst hv
    have hat := hid hat
    by_cases hgo : (k : Int) < (N : Int) ∧ (k : Int) < 256 ∧ (A : Int) < (n : Int)
    · obtain ⟨g1, g2, g3⟩ := hgo
      obtain ⟨x, rfl⟩ := HA.out.pos (by omega)
      have hcell := (HA.out.below hB.out (Nat.le_refl _)).cell k (by omega)
      have hcw := HW.out (cs[k]'(by omega)) (List.getElem_mem _)
      generalize cs[k]'(by omega) = c at *
      obtain ⟨R, hRn⟩ : ∃ R : Nat, (n : Int) - (A : Int) = (R : Int) := ⟨n - A, by omega⟩
      have hRw : IntKind.i64.wrap ((n : Int) - (A : Int)) = (R : Int) := by rw [IntKind.wrap_i64]; omega
      obtain ⟨t, htt⟩ : ∃ t : Int, Int.tmod (k : Int) 2 = t := ⟨_, rfl⟩
      by_cases ht : t = 0
      · subst ht
        by_cases h4 : (40 : Int) < (R : Int)
        · have ip := fun w' => pick_any c (40 : Int) (by omega) (by omega) (by omega) (by omega) w'
          have q0 := pk_nonneg c (40 : Int) (by omega)
          have q1 := pk_lt c (40 : Int) (by omega)
          obtain ⟨q, hq⟩ : ∃ q : Nat, Hid (pk c (40 : Int) = (q : Int)) := ⟨(pk c (40 : Int)).toNat, by unfold Hid; omega⟩
          rw [hq.out] at q0 q1
          have hs : IntKind.i64.wrap ((A : Int) + (q : Int)) = ((A + q : Nat) : Int) := by rw [IntKind.wrap_i64]; omega
          have hs' : IntKind.i64.wrap (((A + q : Nat) : Int) + 1) = ((A + q + 1 : Nat) : Int) := by rw [IntKind.wrap_i64]; omega
          obtain ⟨v3, w3, hap, hO3, hb3⟩ := append_int8 wr w.heap.size _ L ((A + q : Nat) : Int) hO.out (by have := hk.out; omega) hB.out.size
          generalize hG : A + q = G at *
          go_wp2_with (first
            | (go_at_call 6; refine (ip _).mono ?_; rintro e w2 ⟨rfl, h0⟩; have h0 := h0.symm; subst h0; rw [hq.out])
            | (at_builtin; go_must (refine Lib.wpList_append_run _ rfl _ _ 26 26 rfl _ _ rfl rfl _ _ hap ?_)))
          exact ⟨⟨L ++ [((G : Nat) : Int)], G + 1, k + 1, by unfold Hid; have := hk.out; simp; omega, by go_num, by go_num, by omega, by omega, by omega, by unfold Hid; rw [← hG]; exact hR.out.push q, hO3, hB.out.trans hb3⟩, by simp [intOf]; omega⟩
        · have ip := fun w' => pick_any c (R : Int) (by omega) (by omega) (by omega) (by omega) w'
          have q0 := pk_nonneg c (R : Int) (by omega)
          have q1 := pk_lt c (R : Int) (by omega)
          obtain ⟨q, hq⟩ : ∃ q : Nat, Hid (pk c (R : Int) = (q : Int)) := ⟨(pk c (R : Int)).toNat, by unfold Hid; omega⟩
          rw [hq.out] at q0 q1
          have hs : IntKind.i64.wrap ((A : Int) + (q : Int)) = ((A + q : Nat) : Int) := by rw [IntKind.wrap_i64]; omega
          have hs' : IntKind.i64.wrap (((A + q : Nat) : Int) + 1) = ((A + q + 1 : Nat) : Int) := by rw [IntKind.wrap_i64]; omega
          obtain ⟨v3, w3, hap, hO3, hb3⟩ := append_int8 wr w.heap.size _ L ((A + q : Nat) : Int) hO.out (by have := hk.out; omega) hB.out.size
          generalize hG : A + q = G at *
          go_wp2_with (first
            | (go_at_call 6; refine (ip _).mono ?_; rintro e w2 ⟨rfl, h0⟩; have h0 := h0.symm; subst h0; rw [hq.out])
            | (at_builtin; go_must (refine Lib.wpList_append_run _ rfl _ _ 26 26 rfl _ _ rfl rfl _ _ hap ?_)))
          exact ⟨⟨L ++ [((G : Nat) : Int)], G + 1, k + 1, by unfold Hid; have := hk.out; simp; omega, by go_num, by go_num, by omega, by omega, by omega, by unfold Hid; rw [← hG]; exact hR.out.push q, hO3, hB.out.trans hb3⟩, by simp [intOf]; omega⟩
      · have ht' : (t == 0) = false := by simpa using ht
        have ip := fun w' => pick_any c (R : Int) (by omega) (by omega) (by omega) (by omega) w'
        have q0 := pk_nonneg c (R : Int) (by omega)
        have q1 := pk_lt c (R : Int) (by omega)
        obtain ⟨q, hq⟩ : ∃ q : Nat, Hid (pk c (R : Int) = (q : Int)) := ⟨(pk c (R : Int)).toNat, by unfold Hid; omega⟩
        rw [hq.out] at q0 q1
        have hs : IntKind.i64.wrap ((A : Int) + (q : Int)) = ((A + q : Nat) : Int) := by rw [IntKind.wrap_i64]; omega
        have hs' : IntKind.i64.wrap (((A + q : Nat) : Int) + 1) = ((A + q + 1 : Nat) : Int) := by rw [IntKind.wrap_i64]; omega
        obtain ⟨v3, w3, hap, hO3, hb3⟩ := append_int8 wr w.heap.size _ L ((A + q : Nat) : Int) hO.out (by have := hk.out; omega) hB.out.size
        generalize hG : A + q = G at *
        go_wp2_with (first
          | (go_at_call 6; refine (ip _).mono ?_; rintro e w2 ⟨rfl, h0⟩; have h0 := h0.symm; subst h0; rw [hq.out])
          | (at_builtin; go_must (refine Lib.wpList_append_run _ rfl _ _ 26 26 rfl _ _ rfl rfl _ _ hap ?_)))
        exact ⟨⟨L ++ [((G : Nat) : Int)], G + 1, k + 1, by unfold Hid; have := hk.out; simp; omega, by go_num, by go_num, by omega, by omega, by omega, by unfold Hid; rw [← hG]; exact hR.out.push q, hO3, hB.out.trans hb3⟩, by simp [intOf]; omega⟩
    · by_cases g1 : (k : Int) < (N : Int)
      · by_cases g2 : (k : Int) < 256
        · have g3 : ¬ (A : Int) < (n : Int) := fun h => hgo ⟨g1, g2, h⟩
          clear hgo
          by_cases hz : k = 0
          · subst hz
            obtain rfl : L = [] := List.eq_nil_of_length_eq_zero hk.out
            have ip := fun w' => pick_any (n : Int) (n : Int) (by omega) (by omega) (by omega) (by omega) w'
            have q0 := pk_nonneg (n : Int) (n : Int) (by omega)
            have q1 := pk_lt (n : Int) (n : Int) (by omega)
            obtain ⟨q, hq⟩ : ∃ q : Nat, Hid (pk (n : Int) (n : Int) = (q : Int)) := ⟨(pk (n : Int) (n : Int)).toNat, by unfold Hid; omega⟩
            rw [hq.out] at q0 q1
            obtain ⟨v3, w3, hap, hO3, hb3⟩ := append_int8 wr w.heap.size _ [] ((q : Nat) : Int) hO.out (by simp) hB.out.size
            go_wp2_with (first
              | (go_at_call 6; refine (ip _).mono ?_; rintro e w2 ⟨rfl, h0⟩; have h0 := h0.symm; subst h0; rw [hq.out])
              | (at_builtin; go_must (refine Lib.wpList_append_run _ rfl _ _ 26 26 rfl _ _ rfl rfl _ _ hap ?_)))
            go_ret
            obtain ⟨oa, oc, rfl, hat3, -⟩ := hO3.atI8
            refine ⟨oa, oc, _, rfl, hat3, Rsn.ok (A := q + 1) ?_ (by omega) hn hn2 (by simp) (by simp), hB.out.trans hb3⟩
            have := (Rsn.nil 0).push q
            simpa using this
          · have hz' : ¬ (k : Int) = 0 := by omega
            go_wp2
            go_ret
            have hat := hat.out
            refine ⟨oa, oc, L, by rw [hk.out]; rfl, hat, hR.out.ok hAn hn hn2 (by have := hk.out; omega) (by have := hk.out; omega), hB.out⟩
        · clear hgo
          have hz : ¬ k = 0 := by omega
          have hz' : ¬ (k : Int) = 0 := by omega
          go_wp2
          go_ret
          have hat := hat.out
          refine ⟨oa, oc, L, by rw [hk.out]; rfl, hat, hR.out.ok hAn hn hn2 (by have := hk.out; omega) (by have := hk.out; omega), hB.out⟩
      · clear hgo
        by_cases hz : k = 0
        · subst hz
          obtain rfl : L = [] := List.eq_nil_of_length_eq_zero hk.out
          have ip := fun w' => pick_any (n : Int) (n : Int) (by omega) (by omega) (by omega) (by omega) w'
          have q0 := pk_nonneg (n : Int) (n : Int) (by omega)
          have q1 := pk_lt (n : Int) (n : Int) (by omega)
          obtain ⟨q, hq⟩ : ∃ q : Nat, Hid (pk (n : Int) (n : Int) = (q : Int)) := ⟨(pk (n : Int) (n : Int)).toNat, by unfold Hid; omega⟩
          rw [hq.out] at q0 q1
          obtain ⟨v3, w3, hap, hO3, hb3⟩ := append_int8 wr w.heap.size _ [] ((q : Nat) : Int) hO.out (by simp) hB.out.size
          go_wp2_with (first
            | (go_at_call 6; refine (ip _).mono ?_; rintro e w2 ⟨rfl, h0⟩; have h0 := h0.symm; subst h0; rw [hq.out])
            | (at_builtin; go_must (refine Lib.wpList_append_run _ rfl _ _ 26 26 rfl _ _ rfl rfl _ _ hap ?_)))
          go_ret
          obtain ⟨oa, oc, rfl, hat3, -⟩ := hO3.atI8
          refine ⟨oa, oc, _, rfl, hat3, Rsn.ok (A := q + 1) ?_ (by omega) hn hn2 (by simp) (by simp), hB.out.trans hb3⟩
          have := (Rsn.nil 0).push q
          simpa using this
        · have hz' : ¬ (k : Int) = 0 := by omega
          go_wp2
          go_ret
          have hat := hat.out
          refine ⟨oa, oc, L, by rw [hk.out]; rfl, hat, hR.out.ok hAn hn hn2 (by have := hk.out; omega) (by have := hk.out; omega), hB.out⟩
end Go.Proofs.YtdmaiodckialmaaDoor
