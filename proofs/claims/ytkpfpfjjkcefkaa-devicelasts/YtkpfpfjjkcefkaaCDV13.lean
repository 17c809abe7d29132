import Derived.Test.YtkpfpfjjkcefkaaCDV12
namespace Go.Proofs.Ytkpfpfjjkcefkaa
open Go.RowKit Go.Maps

/-- keeps in memory, wherever they lie -/
def AtK (w : World) (a : Option Addr) (l : List (Int × Int)) : Prop := ∀ j, (hj : j < l.length) → ∃ g o, a = some ⟨g, o, none⟩ ∧ g < w.heap.size ∧ w.cell? ⟨g, o + j * 2, none⟩ = some (.int .i64 (l[j]).1) ∧ w.cell? ⟨g, o + j * 2 + 1, none⟩ = some (.int .i64 (l[j]).2)
theorem AtK.below {a : Option Addr} {w w' : World} {l : List (Int × Int)} (h : AtK w a l) (hb : Below w.heap.size w w') : AtK w' a l := fun j hj => by
  obtain ⟨g, o, h1, h2, h3, h4⟩ := h j hj
  exact ⟨g, o, h1, Nat.lt_of_lt_of_le h2 hb.size, (hb.cell (p := ⟨g, o + j * 2, none⟩) h2).trans h3, (hb.cell (p := ⟨g, o + j * 2 + 1, none⟩) h2).trans h4⟩
/-- one keep: of which, how many bytes -/
def kpS (m : Nat) (st : List Nat × List Bool) (k : Int × Int) : Option (List Nat × List Bool) :=
  if 0 ≤ k.1 ∧ k.1 < (m : Int) ∧ st.2[k.1.toNat]! = false ∧ 0 ≤ k.2 ∧ k.2 ≤ 256 then some (st.1.set k.1.toNat k.2.toNat, st.2.set k.1.toNat true) else none
/-- the first n keeps -/
def kpF (m : Nat) (l : List (Int × Int)) : Nat → Option (List Nat × List Bool)
  | 0 => some (List.replicate m 0, List.replicate m false)
  | n + 1 => (kpF m l n).bind fun st => kpS m st l[n]!
def kpB (m : Nat) (l : List (Int × Int)) : Option (List Nat) := (kpF m l l.length).map (·.1)
theorem kpF_none {m : Nat} {l : List (Int × Int)} {n : Nat} (h : kpF m l n = none) : ∀ j, n ≤ j → kpF m l j = none := by
  intro j hj
  induction j with
  | zero =>
    obtain rfl : n = 0 := by omega
    exact h
  | succ j ih =>
    by_cases e : n = j + 1
    · rw [← e]; exact h
    · rw [kpF, ih (by omega)]; rfl
theorem kpF_ok {m : Nat} {l : List (Int × Int)} : ∀ n st, kpF m l n = some st → st.1.length = m ∧ st.2.length = m ∧ ∀ x ∈ st.1, x ≤ 256 := by
  intro n
  induction n with
  | zero =>
    intro st h
    obtain rfl := Option.some.inj h
    exact ⟨List.length_replicate, List.length_replicate, fun x hx => by rw [List.eq_of_mem_replicate hx]; omega⟩
  | succ n ih =>
    intro st h
    rw [kpF, Option.bind_eq_some_iff] at h
    obtain ⟨s0, h1, h2⟩ := h
    obtain ⟨i1, i2, i3⟩ := ih s0 h1
    unfold kpS at h2
    split at h2
    · next hc =>
      obtain rfl := Option.some.inj h2
      refine ⟨by rw [List.length_set]; exact i1, by rw [List.length_set]; exact i2, fun x hx => ?_⟩
      rcases List.mem_or_eq_of_mem_set hx with hx | rfl
      · exact i3 x hx
      · omega
    · cases h2
/-- rows of numbers, of flags -/
def nv (l : List Nat) : List Value := l.map fun n : Nat => Value.int .i64 (n : Int)
def RowN (w : World) (H : Nat) (l : List Nat) : Prop := w.heap[H]? = some (.cells (nv l).toArray 3 (0, 0))
def bvl (l : List Bool) : List Value := l.map Value.bool
def RowF (w : World) (H : Nat) (l : List Bool) : Prop := w.heap[H]? = some (.cells (bvl l).toArray 4 (0, 0))
theorem RowN.set {w : World} {H : Nat} {l : List Nat} (h : RowN w H l) (k x : Nat) : RowN (w.setCell ⟨H, k, none⟩ (.int .i64 (x : Int))) H (l.set k x) := by
  have e := setCell_eq_setRow w H k (nv l).toArray 3 (0, 0) (.int .i64 (x : Int)) h
  unfold RowN
  rw [e, setRow_heap _ _ _ _ _ _ h]
  refine congrArg (fun A => some (Obj.cells A 3 (0, 0))) ?_
  simp [nv, List.map_set]
theorem RowF.set {w : World} {H : Nat} {l : List Bool} (h : RowF w H l) (k : Nat) (x : Bool) : RowF (w.setCell ⟨H, k, none⟩ (.bool x)) H (l.set k x) := by
  have e := setCell_eq_setRow w H k (bvl l).toArray 4 (0, 0) (.bool x) h
  unfold RowF
  rw [e, setRow_heap _ _ _ _ _ _ h]
  refine congrArg (fun A => some (Obj.cells A 4 (0, 0))) ?_
  simp [bvl, List.map_set]
theorem RowN.cell {w : World} {H : Nat} {l : List Nat} (h : RowN w H l) {j : Nat} (hj : j < l.length) : w.cell? ⟨H, j, none⟩ = some (.int .i64 ((l[j] : Nat) : Int)) := by
  rw [cell_of_row _ _ _ _ _ _ h]; simp [nv, hj]
theorem RowF.cell {w : World} {H : Nat} {l : List Bool} (h : RowF w H l) {j : Nat} (hj : j < l.length) : w.cell? ⟨H, j, none⟩ = some (.bool l[j]) := by
  rw [cell_of_row _ _ _ _ _ _ h]; simp [bvl, hj]
theorem infoN : (Try.prog.info? 3).map (fun i => (i.zero, i.size, i.bytes)) = some (some (.int .i64 0), 1, 8) := by kernel_rfl
theorem infoF : (Try.prog.info? 4).map (fun i => (i.zero, i.size, i.bytes)) = some (some (.bool false), 1, 1) := by kernel_rfl
theorem make_nums (w : World) (c : Nat) (hc : c ≤ 8796093021960) :
    (Instr.makeSlice 42 (.int .i64 (c : Int)) (.int .i64 (c : Int))).run Try.prog w = .ok (.slice (some ⟨w.heap.size, 0, none⟩) c c) (w.alloc (.cells (nv (List.replicate c 0)).toArray 3)) := by
  obtain ⟨i0, hi, hz0, hz1, hz2⟩ := info_parts infoN
  have h := run_make (P := Try.prog) w 42 3 i0 (.int .i64 0) Try.underlying42 hi hz0 .i64 .i64 (c : Int) (c : Int) (by omega) (by omega) (by rw [hz2]; omega) (by omega)
  rw [Int.toNat_natCast, hz1, Nat.mul_one] at h
  have e : madeCells (Value.int .i64 0).cells c = (nv (List.replicate c 0)).toArray := by
    apply Array.ext'
    rw [show (madeCells (Value.int .i64 0).cells c).toList = List.replicate c (.int .i64 0) from toList_madeCells_one _ _]
    simp [nv]
  rw [e] at h
  exact h
theorem make_flags (w : World) (c : Nat) (hc : c ≤ 8796093021960) :
    (Instr.makeSlice 72 (.int .i64 (c : Int)) (.int .i64 (c : Int))).run Try.prog w = .ok (.slice (some ⟨w.heap.size, 0, none⟩) c c) (w.alloc (.cells (bvl (List.replicate c false)).toArray 4)) := by
  obtain ⟨i0, hi, hz0, hz1, hz2⟩ := info_parts infoF
  have h := run_make (P := Try.prog) w 72 4 i0 (.bool false) Try.underlying72 hi hz0 .i64 .i64 (c : Int) (c : Int) (by omega) (by omega) (by rw [hz2]; omega) (by omega)
  rw [Int.toNat_natCast, hz1, Nat.mul_one] at h
  have e : madeCells (Value.bool false).cells c = (bvl (List.replicate c false)).toArray := by
    apply Array.ext'
    rw [show (madeCells (Value.bool false).cells c).toList = List.replicate c (.bool false) from toList_madeCells_one _ _]
    simp [bvl]
  rw [e] at h
  exact h
/-- what keptOf answers -/
def KoR (w w' : World) (m : Nat) (l : List (Int × Int)) (r : Ending) : Prop :=
  Below w.heap.size w w' ∧ ((kpB m l = none ∧ r = .returned (.tuple #[.slice none 0 0, .bool false])) ∨ ∃ ns gk, kpB m l = some ns ∧ r = .returned (.tuple #[.slice (some ⟨gk, 0, none⟩) m m, .bool true]) ∧ RowN w' gk ns ∧ w.heap.size ≤ gk)
theorem two_alloc (w : World) (A B : Obj) : ∃ W, ((w.alloc A).alloc B).drew = W ∧ Below w.heap.size w W ∧ W.heap[w.heap.size]? = some A ∧ W.heap[w.heap.size + 1]? = some B := by
  have b1 := (Below.refl w.heap.size w).alloc (Nat.le_refl _) A
  have r1 := heap_alloc_new w A
  have s1 := size_alloc w A
  generalize w.alloc A = w1 at *
  have b2 := b1.alloc (by omega) B
  have r2 := heap_alloc_new w1 B
  have c2 := (Below.refl w1.heap.size w1).alloc (Nat.le_refl _) B
  refine ⟨_, rfl, b2.drew, (c2.block w.heap.size (by omega)).trans r1, ?_⟩
  rw [← s1]; exact r2
set_option maxRecDepth 100000 in
set_option maxHeartbeats 4000000 in
theorem keptOf_any (l : List (Int × Int)) (a : Option Addr) (c m : Nat) (w : World) (hm : m ≤ 4096) (hl : l.length ≤ 9223372036854775807) (hA : AtK w a l) :
    Calls Try.prog 42 #[.slice a l.length c, .int .i64 (m : Int)] w (fun r w' => KoR w w' m l r) := by
  have hm1 : ∀ w, _ := fun w => make_nums w m (by omega)
  have hm2 : ∀ w, _ := fun w => make_flags w m (by omega)
  have HA := hid hA
  obtain ⟨n, hn⟩ : ∃ n, l.length = n := ⟨_, rfl⟩
  have HN := hid hn
  rw [hn] at hl ⊢
  clear hA hn
  go_enter Try.func42, Try.ntmps42
  go_wp2
  go_region
  · obtain ⟨W, hW, bW, rA, rB⟩ := two_alloc w (.cells (nv (List.replicate m 0)).toArray 3) (.cells (bvl (List.replicate m false)).toArray 4)
    rw [hW]
    have BW := hid bW
    have RN : RowN W (w.heap.size) (List.replicate m 0) := rA
    have RF : RowF W (w.heap.size + 1) (List.replicate m false) := rB
    have hkn : (w.heap.size) ≠ (w.heap.size + 1) := by omega
    have hk0 : w.heap.size ≤ (w.heap.size) := by omega
    have hn0 : w.heap.size ≤ (w.heap.size + 1) := by omega
    have RN := hid RN
    have RF := hid RF
    clear bW rA rB hW hm1 hm2
    go_wp2
    go_loopw [16] (fun i w' => ∃ (k : Nat) (ns : List Nat) (bs : List Bool), k ≤ n ∧ i = .int .i64 (k : Int) ∧ Hid (kpF m l k = some (ns, bs)) ∧ Hid (RowN w' (w.heap.size) ns) ∧ Hid (RowF w' (w.heap.size + 1) bs) ∧ Hid (Below w.heap.size w w')) (fun i _ => n - (RowKit.intOf i).toNat)
    case atStart => exact ⟨0, _, _, by omega, rfl, rfl, RN, RF, BW⟩
    case round =>
      clear RN RF BW
      obtain ⟨k, ns, bs, hk, rfl, hF, hN, hS, hB⟩ := hrel
      have hn := HN.out
      by_cases hkn' : k < n
      · have c0 : (k : Int) < (n : Int) := by omega
        have cp : (0 : Int) ≤ (k : Int) := by omega
        obtain ⟨g, o, rfl, hg, x0, x1⟩ := (HA.out.below hB.out) k (by omega)
        obtain ⟨s1, s2, s3⟩ := kpF_ok k _ hF.out
        have s1 : ns.length = m := s1
        have s2 : bs.length = m := s2
        have hnx : kpF m l (k + 1) = kpS m (ns, bs) l[k] := by rw [kpF, hF.out, getElem!_pos l k (by omega)]; rfl
        have hbad : kpF m l (k + 1) = none → kpB m l = none := fun h => by rw [kpB, kpF_none h l.length (by omega)]; rfl
        obtain ⟨⟨N, Y⟩, hNY⟩ : ∃ x, l[k]'(by omega) = x := ⟨_, rfl⟩
        rw [hNY] at x0 x1 hnx
        have b5 := (Below.refl wr.heap.size wr).alloc (Nat.le_refl _) (.cells #[.int .i64 N, .int .i64 Y] 54)
        have r5 := heap_alloc_new wr (.cells #[.int .i64 N, .int .i64 Y] 54)
        have hgk : (w.heap.size) < wr.heap.size := lt_of_heap hN.out
        have hgn : (w.heap.size + 1) < wr.heap.size := lt_of_heap hS.out
        obtain ⟨w5, hw5⟩ : ∃ w5, wr.alloc (.cells #[.int .i64 N, .int .i64 Y] 54) = w5 := ⟨_, rfl⟩
        rw [hw5] at b5 r5
        have u0 : w5.cell? ⟨wr.heap.size, 0, none⟩ = some (.int .i64 N) := by rw [cell_of_row _ _ _ _ _ _ r5]; rfl
        have u1 : w5.cell? ⟨wr.heap.size, 1, none⟩ = some (.int .i64 Y) := by rw [cell_of_row _ _ _ _ _ _ r5]; rfl
        have hN5 : RowN w5 (w.heap.size) ns := (b5.block (w.heap.size) hgk).trans hN.out
        have hS5 : RowF w5 (w.heap.size + 1) bs := (b5.block (w.heap.size + 1) hgn).trans hS.out
        have B5 := hid (hB.out.trans (b5.mono hB.out.size))
        have HNX := hid hnx
        have HBAD := hid hbad
        have HNK := hid hN5
        have HSK := hid hS5
        have HB := hB.out.size
        clear hN hS hB hF r5 hnx hbad hNY hN5 hS5 b5 hn
        by_cases g1 : 0 ≤ N ∧ N < (m : Int)
        · obtain ⟨M, rfl⟩ : ∃ M : Nat, N = (M : Int) := ⟨N.toNat, by omega⟩
          have d0 : ¬ (M : Int) < 0 := by omega
          have d1 : (M : Int) < (m : Int) := g1.2
          have d2 : (0 : Int) ≤ (M : Int) := by omega
          have hMb : M < bs.length := by omega
          have hMn : M < ns.length := by omega
          have cF := HSK.out.cell hMb
          have cN := HNK.out.cell hMn
          have eF : bs[((M : Nat) : Int).toNat]! = bs[M] := by rw [Int.toNat_natCast, getElem!_pos bs M hMb]
          cases hbM : bs[M] with
          | true =>
            rw [hbM] at cF
            have hno : kpS m (ns, bs) ((M : Int), Y) = none := by unfold kpS; rw [if_neg (by rw [eF, hbM]; simp)]
            have HNO := hid hno
            clear hno cN eF hbM
            go_wp2
            go_ret2
            exact ⟨B5.out, .inl ⟨HBAD.out (HNX.out.trans HNO.out), rfl⟩⟩
          | false =>
            rw [hbM] at cF
            by_cases g2 : 0 ≤ Y ∧ Y ≤ 256
            · obtain ⟨Z, rfl⟩ : ∃ Z : Nat, Y = (Z : Int) := ⟨Y.toNat, by omega⟩
              have d3 : ¬ (Z : Int) < 0 := by omega
              have d4 : ¬ (256 : Int) < (Z : Int) := by omega
              have hyes : kpS m (ns, bs) ((M : Int), (Z : Int)) = some (ns.set M Z, bs.set M true) := by
                unfold kpS; rw [if_pos ⟨d2, d1, by rw [eF, hbM], by omega, by omega⟩]; simp
              have HYES := hid hyes
              have R6 := HNK.out.set M Z
              have F6 : RowF (w5.setCell ⟨w.heap.size, M, none⟩ (.int .i64 (Z : Int))) (w.heap.size + 1) bs := (heap_setCell_other _ _ _ _ (Ne.symm hkn)).trans HSK.out
              have F7 := F6.set M true
              have R7 : RowN ((w5.setCell ⟨w.heap.size, M, none⟩ (.int .i64 (Z : Int))).setCell ⟨w.heap.size + 1, M, none⟩ (.bool true)) (w.heap.size) (ns.set M Z) := (heap_setCell_other _ _ _ _ hkn).trans R6
              have fN : w5.frozen? ⟨w.heap.size, M, none⟩ = false := frozen_of_row _ _ _ _ _ HNK.out
              have fF : (w5.setCell ⟨w.heap.size, M, none⟩ (.int .i64 (Z : Int))).frozen? ⟨w.heap.size + 1, M, none⟩ = false := frozen_of_row _ _ _ _ _ F6
              have cF6 : (w5.setCell ⟨w.heap.size, M, none⟩ (.int .i64 (Z : Int))).cell? ⟨w.heap.size + 1, M, none⟩ = some (.bool false) := by rw [F6.cell hMb, hbM]
              have B7 := hid ((B5.out.setCell (p := ⟨w.heap.size, M, none⟩) hk0 (.int .i64 (Z : Int))).setCell (p := ⟨w.heap.size + 1, M, none⟩) hn0 (.bool true))
              have R7 := hid R7
              have F7 := hid F7
              clear hyes eF hbM R6 F6
              go_wp2
              go_region
              go_wp2
              exact ⟨⟨k + 1, _, _, by omega, by go_num, hid (HNX.out.trans HYES.out), R7, F7, hid B7.out.drew⟩, by simp [RowKit.intOf]; omega⟩
            · have hno : kpS m (ns, bs) ((M : Int), Y) = none := by unfold kpS; rw [if_neg (fun h => g2 ⟨h.2.2.2.1, h.2.2.2.2⟩)]
              have HNO := hid hno
              clear hno cN eF hbM
              by_cases g3 : Y < 0
              · clear g2
                go_wp2
                go_ret2
                exact ⟨B5.out, .inl ⟨HBAD.out (HNX.out.trans HNO.out), rfl⟩⟩
              · have g4 : (256 : Int) < Y := by omega
                clear g2
                go_wp2
                go_ret2
                exact ⟨B5.out, .inl ⟨HBAD.out (HNX.out.trans HNO.out), rfl⟩⟩
        · have hno : kpS m (ns, bs) (N, Y) = none := by unfold kpS; rw [if_neg (fun h => g1 ⟨h.1, h.2.1⟩)]
          have HNO := hid hno
          clear hno
          by_cases g3 : N < 0
          · clear g1
            go_wp2
            go_ret2
            exact ⟨B5.out, .inl ⟨HBAD.out (HNX.out.trans HNO.out), rfl⟩⟩
          · have g4 : (m : Int) ≤ N := by omega
            clear g1
            go_wp2
            go_ret2
            exact ⟨B5.out, .inl ⟨HBAD.out (HNX.out.trans HNO.out), rfl⟩⟩
      · obtain rfl : k = n := by omega
        have c0 : ¬ (k : Int) < (k : Int) := by omega
        clear hn
        go_wp2
        go_ret2
        refine ⟨hB.out, .inr ⟨ns, (w.heap.size), ?_, rfl, hN.out, hk0⟩⟩
        rw [kpB, HN.out, hF.out]; rfl
  · obtain ⟨W, hW, bW, rA, rB⟩ := two_alloc w (.cells (bvl (List.replicate m false)).toArray 4) (.cells (nv (List.replicate m 0)).toArray 3)
    rw [hW]
    have BW := hid bW
    have RN : RowN W (w.heap.size + 1) (List.replicate m 0) := rB
    have RF : RowF W (w.heap.size) (List.replicate m false) := rA
    have hkn : (w.heap.size + 1) ≠ (w.heap.size) := by omega
    have hk0 : w.heap.size ≤ (w.heap.size + 1) := by omega
    have hn0 : w.heap.size ≤ (w.heap.size) := by omega
    have RN := hid RN
    have RF := hid RF
    clear bW rA rB hW hm1 hm2
    go_wp2
    go_loopw [16] (fun i w' => ∃ (k : Nat) (ns : List Nat) (bs : List Bool), k ≤ n ∧ i = .int .i64 (k : Int) ∧ Hid (kpF m l k = some (ns, bs)) ∧ Hid (RowN w' (w.heap.size + 1) ns) ∧ Hid (RowF w' (w.heap.size) bs) ∧ Hid (Below w.heap.size w w')) (fun i _ => n - (RowKit.intOf i).toNat)
    case atStart => exact ⟨0, _, _, by omega, rfl, rfl, RN, RF, BW⟩
    case round =>
      clear RN RF BW
      obtain ⟨k, ns, bs, hk, rfl, hF, hN, hS, hB⟩ := hrel
      have hn := HN.out
      by_cases hkn' : k < n
      · have c0 : (k : Int) < (n : Int) := by omega
        have cp : (0 : Int) ≤ (k : Int) := by omega
        obtain ⟨g, o, rfl, hg, x0, x1⟩ := (HA.out.below hB.out) k (by omega)
        obtain ⟨s1, s2, s3⟩ := kpF_ok k _ hF.out
        have s1 : ns.length = m := s1
        have s2 : bs.length = m := s2
        have hnx : kpF m l (k + 1) = kpS m (ns, bs) l[k] := by rw [kpF, hF.out, getElem!_pos l k (by omega)]; rfl
        have hbad : kpF m l (k + 1) = none → kpB m l = none := fun h => by rw [kpB, kpF_none h l.length (by omega)]; rfl
        obtain ⟨⟨N, Y⟩, hNY⟩ : ∃ x, l[k]'(by omega) = x := ⟨_, rfl⟩
        rw [hNY] at x0 x1 hnx
        have b5 := (Below.refl wr.heap.size wr).alloc (Nat.le_refl _) (.cells #[.int .i64 N, .int .i64 Y] 54)
        have r5 := heap_alloc_new wr (.cells #[.int .i64 N, .int .i64 Y] 54)
        have hgk : (w.heap.size + 1) < wr.heap.size := lt_of_heap hN.out
        have hgn : (w.heap.size) < wr.heap.size := lt_of_heap hS.out
        obtain ⟨w5, hw5⟩ : ∃ w5, wr.alloc (.cells #[.int .i64 N, .int .i64 Y] 54) = w5 := ⟨_, rfl⟩
        rw [hw5] at b5 r5
        have u0 : w5.cell? ⟨wr.heap.size, 0, none⟩ = some (.int .i64 N) := by rw [cell_of_row _ _ _ _ _ _ r5]; rfl
        have u1 : w5.cell? ⟨wr.heap.size, 1, none⟩ = some (.int .i64 Y) := by rw [cell_of_row _ _ _ _ _ _ r5]; rfl
        have hN5 : RowN w5 (w.heap.size + 1) ns := (b5.block (w.heap.size + 1) hgk).trans hN.out
        have hS5 : RowF w5 (w.heap.size) bs := (b5.block (w.heap.size) hgn).trans hS.out
        have B5 := hid (hB.out.trans (b5.mono hB.out.size))
        have HNX := hid hnx
        have HBAD := hid hbad
        have HNK := hid hN5
        have HSK := hid hS5
        have HB := hB.out.size
        clear hN hS hB hF r5 hnx hbad hNY hN5 hS5 b5 hn
        by_cases g1 : 0 ≤ N ∧ N < (m : Int)
        · obtain ⟨M, rfl⟩ : ∃ M : Nat, N = (M : Int) := ⟨N.toNat, by omega⟩
          have d0 : ¬ (M : Int) < 0 := by omega
          have d1 : (M : Int) < (m : Int) := g1.2
          have d2 : (0 : Int) ≤ (M : Int) := by omega
          have hMb : M < bs.length := by omega
          have hMn : M < ns.length := by omega
          have cF := HSK.out.cell hMb
          have cN := HNK.out.cell hMn
          have eF : bs[((M : Nat) : Int).toNat]! = bs[M] := by rw [Int.toNat_natCast, getElem!_pos bs M hMb]
          cases hbM : bs[M] with
          | true =>
            rw [hbM] at cF
            have hno : kpS m (ns, bs) ((M : Int), Y) = none := by unfold kpS; rw [if_neg (by rw [eF, hbM]; simp)]
            have HNO := hid hno
            clear hno cN eF hbM
            go_wp2
            go_ret2
            exact ⟨B5.out, .inl ⟨HBAD.out (HNX.out.trans HNO.out), rfl⟩⟩
          | false =>
            rw [hbM] at cF
            by_cases g2 : 0 ≤ Y ∧ Y ≤ 256
            · obtain ⟨Z, rfl⟩ : ∃ Z : Nat, Y = (Z : Int) := ⟨Y.toNat, by omega⟩
              have d3 : ¬ (Z : Int) < 0 := by omega
              have d4 : ¬ (256 : Int) < (Z : Int) := by omega
              have hyes : kpS m (ns, bs) ((M : Int), (Z : Int)) = some (ns.set M Z, bs.set M true) := by
                unfold kpS; rw [if_pos ⟨d2, d1, by rw [eF, hbM], by omega, by omega⟩]; simp
              have HYES := hid hyes
              have R6 := HNK.out.set M Z
              have F6 : RowF (w5.setCell ⟨w.heap.size + 1, M, none⟩ (.int .i64 (Z : Int))) (w.heap.size) bs := (heap_setCell_other _ _ _ _ (Ne.symm hkn)).trans HSK.out
              have F7 := F6.set M true
              have R7 : RowN ((w5.setCell ⟨w.heap.size + 1, M, none⟩ (.int .i64 (Z : Int))).setCell ⟨w.heap.size, M, none⟩ (.bool true)) (w.heap.size + 1) (ns.set M Z) := (heap_setCell_other _ _ _ _ hkn).trans R6
              have fN : w5.frozen? ⟨w.heap.size + 1, M, none⟩ = false := frozen_of_row _ _ _ _ _ HNK.out
              have fF : (w5.setCell ⟨w.heap.size + 1, M, none⟩ (.int .i64 (Z : Int))).frozen? ⟨w.heap.size, M, none⟩ = false := frozen_of_row _ _ _ _ _ F6
              have cF6 : (w5.setCell ⟨w.heap.size + 1, M, none⟩ (.int .i64 (Z : Int))).cell? ⟨w.heap.size, M, none⟩ = some (.bool false) := by rw [F6.cell hMb, hbM]
              have B7 := hid ((B5.out.setCell (p := ⟨w.heap.size + 1, M, none⟩) hk0 (.int .i64 (Z : Int))).setCell (p := ⟨w.heap.size, M, none⟩) hn0 (.bool true))
              have R7 := hid R7
              have F7 := hid F7
              clear hyes eF hbM R6 F6
              go_wp2
              go_region
              go_wp2
              exact ⟨⟨k + 1, _, _, by omega, by go_num, hid (HNX.out.trans HYES.out), R7, F7, hid B7.out.drew⟩, by simp [RowKit.intOf]; omega⟩
            · have hno : kpS m (ns, bs) ((M : Int), Y) = none := by unfold kpS; rw [if_neg (fun h => g2 ⟨h.2.2.2.1, h.2.2.2.2⟩)]
              have HNO := hid hno
              clear hno cN eF hbM
              by_cases g3 : Y < 0
              · clear g2
                go_wp2
                go_ret2
                exact ⟨B5.out, .inl ⟨HBAD.out (HNX.out.trans HNO.out), rfl⟩⟩
              · have g4 : (256 : Int) < Y := by omega
                clear g2
                go_wp2
                go_ret2
                exact ⟨B5.out, .inl ⟨HBAD.out (HNX.out.trans HNO.out), rfl⟩⟩
        · have hno : kpS m (ns, bs) (N, Y) = none := by unfold kpS; rw [if_neg (fun h => g1 ⟨h.1, h.2.1⟩)]
          have HNO := hid hno
          clear hno
          by_cases g3 : N < 0
          · clear g1
            go_wp2
            go_ret2
            exact ⟨B5.out, .inl ⟨HBAD.out (HNX.out.trans HNO.out), rfl⟩⟩
          · have g4 : (m : Int) ≤ N := by omega
            clear g1
            go_wp2
            go_ret2
            exact ⟨B5.out, .inl ⟨HBAD.out (HNX.out.trans HNO.out), rfl⟩⟩
      · obtain rfl : k = n := by omega
        have c0 : ¬ (k : Int) < (k : Int) := by omega
        clear hn
        go_wp2
        go_ret2
        refine ⟨hB.out, .inr ⟨ns, (w.heap.size + 1), ?_, rfl, hN.out, hk0⟩⟩
        rw [kpB, HN.out, hF.out]; rfl
end Go.Proofs.Ytkpfpfjjkcefkaa
