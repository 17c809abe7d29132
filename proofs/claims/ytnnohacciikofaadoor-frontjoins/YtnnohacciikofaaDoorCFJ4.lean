import Derived.Deep.RegionHeld3
import Derived.Test.YtnnohacciikofaaDoorCFL1
import Derived.Test.YtnnohacciikofaaDoorCFJ2
namespace Go.Proofs.YtnnohacciikofaaDoor
open Go.RowKit
theorem infoB1 : (Tryd.prog.info? 4).map (fun i => (i.zero, i.size, i.bytes)) = some (some (.bool false), 1, 1) := by kernel_rfl
theorem undB1 : Tryd.prog.underlying 32 = some (.slice 4) := by kernel_rfl
/-- the cells of truth values -/
def bvs (l : List Bool) : List Value := l.map .bool
theorem make_bools (w : World) (c : Nat) (hc : c ≤ 100000) :
    (Instr.makeSlice 32 (.int .i64 (c : Int)) (.int .i64 (c : Int))).run Tryd.prog w = .ok (.slice (some ⟨w.heap.size, 0, none⟩) c c) (w.alloc (.cells (bvs (List.replicate c false)).toArray 4)) := by
  obtain ⟨i0, hi, hz0, hz1, hz2⟩ := info_parts infoB1
  have h := run_make (P := Tryd.prog) w 32 4 i0 (.bool false) undB1 hi hz0 .i64 .i64 (c : Int) (c : Int) (by omega) (by omega) (by rw [hz2]; omega) (by omega)
  rw [Int.toNat_natCast, hz1, Nat.mul_one] at h
  have e : madeCells (Value.bool false).cells c = (bvs (List.replicate c false)).toArray := by
    apply Array.ext'
    have h1 : (madeCells (Value.bool false).cells c).toList = List.replicate c (.bool false) := toList_madeCells_one _ _
    rw [h1, bvs, List.map_replicate]
  rw [e] at h
  exact h
theorem bvs_cell {w : World} {g : Nat} {l : List Bool} (h : w.heap[g]? = some (.cells (bvs l).toArray 4 (0, 0))) {j : Nat} (hj : j < l.length) : w.cell? ⟨g, j, none⟩ = some (.bool l[j]) := by
  rw [cell_of_row _ _ _ _ _ _ h]
  simp [bvs, hj]
theorem bvs_set {w : World} {g : Nat} {l : List Bool} (h : w.heap[g]? = some (.cells (bvs l).toArray 4 (0, 0))) (j : Nat) (b : Bool) : (w.setCell ⟨g, j, none⟩ (.bool b)).heap[g]? = some (.cells (bvs (l.set j b)).toArray 4 (0, 0)) := by
  have := heap_setCell_same w g j _ _ (.bool b) h
  rw [this]
  simp [bvs, List.map_set]
theorem OwnM.fro {m : Nat} {w : World} {g n c : Nat} {cs : List Value} (h : OwnM m w (.slice (some ⟨g, 0, none⟩) n c) n cs) {j : Nat} (hj : j < n * m) : w.frozen? ⟨g, j, none⟩ = false := by
  rcases h with ⟨h, _⟩ | ⟨g', cap', h, h2, h3, h0, h4, h5, h6⟩
  · cases h
  · injection h with e1 e2 e3
    injection e1 with e1
    injection e1 with e1
    subst e1 e3
    have := (h5 j (Nat.lt_of_lt_of_le hj (Nat.mul_le_mul_right m h2))).2
    rwa [Nat.zero_add] at this
theorem set_shut {α : Type} : ∀ (l : List α) (u : Nat) (x : α), u < l.length → (l.set u x).take (u + 1) ++ (l.set u x).drop (u + 2) = l.take u ++ x :: l.drop (u + 2)
  | [], _, _, h => absurd h (by simp)
  | a :: l, 0, x, _ => by simp
  | a :: l, u + 1, x, h => by
    have := set_shut l u x (by simpa using h)
    simp only [List.set_cons_succ, List.take_succ_cons, List.drop_succ_cons, List.cons_append, this]
/-- two ranges' cells -/
def S33 (g h : Nat) (x0 x1 x2 y0 y1 y2 : Value) (w : World) : Prop :=
  w.cell? ⟨g, 0, none⟩ = some x0 ∧ w.cell? ⟨g, 1, none⟩ = some x1 ∧ w.cell? ⟨g, 2, none⟩ = some x2 ∧ w.cell? ⟨h, 0, none⟩ = some y0 ∧ w.cell? ⟨h, 1, none⟩ = some y1 ∧ w.cell? ⟨h, 2, none⟩ = some y2
theorem S33.below {g h B : Nat} {x0 x1 x2 y0 y1 y2 : Value} {w w' : World} (s : S33 g h x0 x1 x2 y0 y1 y2 w) (hb : Below B w w') (hg : g < B) (hh : h < B) : S33 g h x0 x1 x2 y0 y1 y2 w' := by
  have e : ∀ k o, k < B → w'.cell? ⟨k, o, none⟩ = w.cell? ⟨k, o, none⟩ := fun k o hk => World.cell?_of_block (w := w) (hb.block k hk)
  obtain ⟨h0, h1, h2, h3, h4, h5⟩ := s
  exact ⟨(e _ _ hg).trans h0, (e _ _ hg).trans h1, (e _ _ hg).trans h2, (e _ _ hh).trans h3, (e _ _ hh).trans h4, (e _ _ hh).trans h5⟩
theorem rootO_all {L : List (List UInt8)} (hs : Tree.Hs L) (hl : L.length ≤ 1099511627776) : rootO 0 (L.length : Int) (Cut.cmp L 0) = (Tree.root L, 0) := by
  have r1 : rgt (0 : Int) ((L.length : Nat) : Int) (Cut.cmp L 0).length = true := by
    unfold rgt
    rw [decide_eq_true_iff, Cut.cmp_length, Nat.zero_add, Int.toNat_natCast]
    exact ⟨by omega, by omega, by omega, by omega, by omega, rfl⟩
  unfold rootO
  rw [if_pos ⟨r1, rfl⟩, if_pos (hsB_of (Cut.cmp_hs hs)), Cut.cmp_root L hl]
set_option maxRecDepth 100000 in
set_option maxHeartbeats 8000000 in
theorem joins_any (cs ds os : List Int) (from_ : Int) (a d o : Option Addr) (ca cd co : Nat) (w : World) (hf1 : -9223372036854775808 ≤ from_) (hf2 : from_ ≤ 9223372036854775807) (hcs : cs.length ≤ 9223372036854775807) (hds : ds.length ≤ 9223372036854775806) (hA : AtI w a cs) (hD : AtI w d ds) (hO : AtI w o os) (hdr : ∀ c ∈ ds, -9223372036854775808 ≤ c ∧ c ≤ 9223372036854775807) (hor : ∀ c ∈ os, -9223372036854775808 ≤ c ∧ c ≤ 9223372036854775807) (Z : Tb w) :
    Calls Tryd.prog 3 #[.slice a cs.length ca, .slice d ds.length cd, .slice o os.length co, .int .i64 from_] w fun e w' => e = .returned (.bool true) ∧ Below w.heap.size w w' := by
  have HZ := hid Z
  have HA := hid hA
  have HD := hid hD
  have HO := hid hO
  have HDR := hid hdr
  have HOR := hid hor
  clear Z hA hD hO hdr hor
  obtain ⟨nd, hnd⟩ : ∃ n : Nat, Hid (ds.length = n) := ⟨_, rfl⟩
  obtain ⟨no, hno⟩ : ∃ n : Nat, Hid (os.length = n) := ⟨_, rfl⟩
  rw [hnd.out] at hds ⊢
  rw [hno.out]
  go_enter Tryd.func3, Tryd.ntmps3
  go_wp2_with (go_at_call 5; fail)
  refine (fknown_any _ HZ.out.t).mono ?_
  rintro e w1 ⟨rfl, hw1⟩
  have B1 := hid hw1
  have A1 := hid (HA.out.below hw1 (Nat.le_refl _))
  clear hw1 HA
  go_wp2_with (go_at_call 6; fail)
  refine (numbered_any cs 200 (by omega) a ca _ hcs A1.out).mono ?_
  rintro e w2 ⟨v, rfl, hOw, hw2⟩
  have hs := hid (nums_hs cs 200)
  have hlen := nums_len cs 200
  have B2 := hid (B1.out.trans (hw2.mono B1.out.size))
  obtain ⟨al, cl, rfl, hAl, hl2, hc2⟩ := hOw.at
  have A2 := hid hAl
  have hNone : Hid (al = none → cl = 0) := fun e => by
    rcases hOw with ⟨h, _⟩ | ⟨g, cap, h, _⟩
    · injection h
    · injection h with h; rw [h] at e; cases e
  clear hOw hAl hw2 B1 A1
  generalize hL : nums cs 200 = L at *
  clear hL
  obtain ⟨n, hn⟩ : ∃ n : Nat, Hid (L.length = n) := ⟨_, rfl⟩
  rw [hn.out] at hlen hl2 ⊢
  have hn200 : n ≤ 200 := by omega
  clear hlen
  have q0 : (0 : Int) < 1099511627776 - (n : Int) + 1 := by omega
  have q1 := pk_nonneg from_ (1099511627776 - (n : Int) + 1) q0
  have q2 := pk_lt from_ (1099511627776 - (n : Int) + 1) q0
  have i1 := pick_any from_ (1099511627776 - (n : Int) + 1) hf1 hf2 q0 (by omega) w2
  obtain ⟨P1, hP1⟩ : ∃ P1 : Nat, pk from_ (1099511627776 - (n : Int) + 1) = (P1 : Int) := ⟨(pk from_ (1099511627776 - (n : Int) + 1)).toNat, by omega⟩
  rw [hP1] at i1 q1 q2
  clear hP1
  have q3 := pk_nonneg from_ 3 (by omega)
  have i2 := pick_any from_ 3 hf1 hf2 (by omega) (by omega) w2
  generalize pk from_ 3 = k3 at *
  go_wp2_with (go_at_call 7; fail)
  refine i1.mono ?_
  rintro e w3 ⟨rfl, rfl⟩
  clear i1
  go_upto_if 46 with (go_at_call 7; fail)
  refine i2.mono ?_
  rintro e w4 ⟨rfl, rfl⟩
  clear i2
  go_upto_if 46 with (fail)
  go_cut [11] (fun v w' => ∃ at0 : Nat, v = .int .i64 (at0 : Int) ∧ at0 + n ≤ 1099511627776 ∧ w' = w4)
  case first =>
    by_cases hk3 : k3 = 0
    · have e1 : (k3 == 0) = true := by rw [hk3]; rfl
      clear hk3
      go_wp2
      go_meet
      exact ⟨0, rfl, by omega, rfl⟩
    · have e1 : (k3 == 0) = false := by simpa using hk3
      clear hk3
      go_wp2
      go_meet
      exact ⟨P1, rfl, by omega, rfl⟩
  case rest =>
    obtain ⟨at0, rfl, hat, rfl⟩ := hcut
    obtain ⟨w4, rfl⟩ : ∃ w4, w4 = wc := ⟨_, rfl⟩
    clear q0 q1 q2 q3
    have T4 := HZ.out.below B2.out HZ.out.lt
    have i3 := Compact_any (at0 : Int) L al cl w4 (by omega) (by omega) (by rw [hn.out]; omega) A2.out T4.t
    have ec : cmpE (at0 : Int) L = 0 := by
      unfold cmpE
      rw [hn.out, if_pos ⟨by omega, by omega, by omega⟩, if_pos (by omega), if_pos (hsB_of hs.out)]
    rw [ec, hn.out, Int.toNat_natCast] at i3
    clear ec T4
    go_wp2_with (go_at_call 8; fail)
    refine i3.mono ?_
    intro e w5 h5
    obtain ⟨va, rfl, OA, b5⟩ := h5.some5
    rw [show sel 0 (at0 : Int) = (at0 : Int) from rfl, show sel 0 ((at0 : Int) + (n : Int)) = (at0 : Int) + (n : Int) from rfl, show selL 0 (Cut.cmp L at0) = Cut.cmp L at0 from rfl] at *
    obtain ⟨aA, cA, rfl, AA, _, _, _⟩ := OA.at_base
    clear i3 h5 OA
    obtain ⟨MA, hMA⟩ : ∃ MA, Hid (Cut.cmp L at0 = MA) := ⟨_, rfl⟩
    rw [hMA.out] at AA ⊢
    obtain ⟨mA, hmA⟩ : ∃ mA, Hid (MA.length = mA) := ⟨_, rfl⟩
    rw [hmA.out]
    have eN : ((at0 : Int) + (n : Int)) = ((at0 + n : Nat) : Int) := by omega
    obtain ⟨eA, heA⟩ : ∃ eA : Int, Hid ((at0 : Int) + (n : Int) = eA) := ⟨_, rfl⟩
    rw [heA.out]
    have bs := below_alloc1 b5 (.cells #[Value.int .i64 (at0 : Int), .int .i64 eA, .slice aA mA cA] 28)
    have al5 := (Below.refl w5.heap.size w5).alloc (Nat.le_refl _) (.cells #[Value.int .i64 (at0 : Int), .int .i64 eA, .slice aA mA cA] 28)
    have RA0 := Rg.new w5 (at0 : Int) eA (.slice aA mA cA)
    have AA0 := AA.below al5 (Nat.le_refl _)
    obtain ⟨w6, hw6⟩ : ∃ w6, w5.alloc (.cells #[Value.int .i64 (at0 : Int), .int .i64 eA, .slice aA mA cA] 28) = w6 := ⟨_, rfl⟩
    rw [hw6] at bs RA0 AA0
    obtain ⟨gA, hgA⟩ : ∃ gA, w5.heap.size = gA := ⟨_, rfl⟩
    rw [hgA] at RA0
    have hmk := make_bools w6 (n + 1) (by omega)
    have eC : ((n + 1 : Nat) : Int) = (n : Int) + 1 := by omega
    rw [eC] at hmk
    have al6 := (Below.refl w6.heap.size w6).alloc (Nat.le_refl _) (.cells (bvs (List.replicate (n + 1) false)).toArray 4)
    have ro6 := heap_alloc_new w6 (.cells (bvs (List.replicate (n + 1) false)).toArray 4)
    have sz6 := size_alloc w6 (.cells (bvs (List.replicate (n + 1) false)).toArray 4)
    have B6 := hid (B2.out.trans (bs.mono B2.out.size))
    have A6 := hid (A2.out.below bs (Nat.le_refl _))
    generalize w6.alloc (.cells (bvs (List.replicate (n + 1) false)).toArray 4) = w7 at *
    obtain ⟨gC, hgC⟩ : ∃ gC, w6.heap.size = gC := ⟨_, rfl⟩
    rw [hgC] at ro6 hmk al6 sz6
    have RA := hid RA0
    have AM := hid AA0
    have AL := hid A6.out
    have D67 := hid al6
    have HGC := hid hgC
    have B7 := hid (B6.out.trans (al6.mono (by rw [← hgC]; exact B6.out.size)))
    have RC0 : Hid (w7.heap[gC]? = some (.cells (bvs (List.replicate (n + 1) false)).toArray 4 (0, 0))) := ro6
    have hgAC : gA < gC := by have := lt_of_heap RA0; omega
    have hwC : w.heap.size ≤ gC := by rw [← hgC]; exact B6.out.size
    have DI := hid (HD.out.below B7.out (Nat.le_refl _))
    have OI := hid (HO.out.below B7.out (Nat.le_refl _))
    clear b5 al5 bs AA AA0 RA0 ro6 al6 A2 B2 A6 B6 eN eC
    go_wp2
    clear hmk
    go_loopw [15] (fun i w' => ∃ (k : Nat) (cb : List Bool), i = .int .i64 (k : Int) ∧ k ≤ nd ∧ Hid (cb.length = n + 1) ∧ Hid (w'.heap[gC]? = some (.cells (bvs cb).toArray 4 (0, 0))) ∧ Hid (Below gC w7 w')) (fun i _ => nd - (intOf i).toNat)
    case atStart => exact ⟨0, _, rfl, by omega, hid (List.length_replicate ..), RC0, hid (Below.refl _ _)⟩
    case round =>
      clear RC0
      obtain ⟨k, cb, rfl, hk, hcb, RC, hb⟩ := hrel
      by_cases hkd : k < nd
      · have c0 : (k : Int) < (nd : Int) := by omega
        have hbw := B7.out.trans (hb.out.mono hwC)
        have hkl : k < ds.length := by rw [hnd.out]; exact hkd
        obtain ⟨y, rfl, _, hy⟩ := (HD.out.below hbw (Nat.le_refl _)) k ds[k] (List.getElem?_eq_getElem hkl)
        have hrg := HDR.out ds[k] (List.getElem_mem hkl)
        have i4 := pick_any ds[k] ((n : Int) + 1) hrg.1 hrg.2 (by omega) (by omega) wr
        have g0 := pk_nonneg ds[k] ((n : Int) + 1) (by omega)
        have g1 := pk_lt ds[k] ((n : Int) + 1) (by omega)
        generalize ds[k] = dk at *
        obtain ⟨u, hu⟩ : ∃ u : Nat, pk dk ((n : Int) + 1) = (u : Int) := ⟨(pk dk ((n : Int) + 1)).toNat, by omega⟩
        rw [hu] at i4 g0 g1
        have hul : u < cb.length := by rw [hcb.out]; omega
        have t0 := bvs_cell RC.out hul
        have f0 : wr.frozen? ⟨gC, u, none⟩ = false := frozen_of_row _ _ _ _ _ RC.out
        have R' := hid (bvs_set RC.out u true)
        have B' := hid (hb.out.setCell (p := ⟨gC, u, none⟩) (Nat.le_refl _) (.bool true))
        generalize cb[u] = oldb at t0
        have g2 : (u : Int) < (n : Int) + 1 := g1
        clear hu hrg hkl hbw RC hb g0
        go_wp2_with (go_at_call 7; fail)
        refine i4.mono ?_
        rintro e w8 ⟨rfl, rfl⟩
        clear i4
        go_wp2
        exact ⟨⟨k + 1, cb.set u true, by go_num, by omega, hid (by rw [List.length_set]; exact hcb.out), R', B'⟩, by simp [intOf]; omega⟩
      · have c0 : ¬ (k : Int) < (nd : Int) := by omega
        clear hk hkd
        have BC := hid (D67.out.trans hb.out)
        have hgB : gC < wr.heap.size := lt_of_heap RC.out
        have BW := hid (B7.out.trans (hb.out.mono hwC))
        obtain ⟨w8, rfl⟩ : ∃ w8, w8 = wr := ⟨_, rfl⟩
        clear hb B7 D67
        go_wp2
        go_loopw [16, 17, 18] (fun v b i w' => ∃ (k bN : Nat) (qs : List Prv), i = .int .i64 (k : Int) ∧ b = .int .i64 (bN : Int) ∧ k ≤ n + 1 ∧ bN ≤ n ∧ bN ≤ k ∧ Hid (k = n + 1 → bN = n ∧ qs ≠ []) ∧ Hid (qs.length ≤ k) ∧ Hid (Pm w' w8.heap.size v qs) ∧ Hid (Ch at0 L (qs.map Prod.fst) 0 bN) ∧ Hid (Below w8.heap.size w8 w')) (fun _ _ i _ => n + 1 - (intOf i).toNat)
        case atStart => exact ⟨0, 0, [], rfl, rfl, by omega, by omega, by omega, hid (fun e => by omega), hid (Nat.le_refl _), hid (Pm.nil _ _), hid rfl, hid (Below.refl _ _)⟩
        case round =>
          obtain ⟨k, bN, qs, rfl, rfl, hk, hbn, hbk, hlast, hql, hPm, hCh, hb⟩ := hrel
          by_cases hkn : k ≤ n
          · have c0 : (k : Int) ≤ (n : Int) := by omega
            have RCr := (hb.out.block gC hgB).trans RC.out
            have hkc : k < cb.length := by rw [hcb.out]; omega
            have t0 := bvs_cell RCr hkc
            have c1 : (k : Int) < (n : Int) + 1 := by omega
            generalize cb[k] = cbk at t0
            have BCr := hid (BC.out.trans (hb.out.mono (Nat.le_of_lt hgB)))
            have BWr := hid (BW.out.trans (hb.out.mono BW.out.size))
            clear RCr hkc
            by_cases hdo : cbk = true ∨ k = n
            · have hcnd : Hid (cbk = false → k = n) := fun e => by
                rcases hdo with h | h
                · rw [h] at e; cases e
                · exact h
              clear hdo
              obtain ⟨s0, hs0⟩ : ∃ s0 : Nat, Hid (at0 + bN = s0) := ⟨_, rfl⟩
              obtain ⟨s1, hs1⟩ : ∃ s1 : Nat, Hid (at0 + k = s1) := ⟨_, rfl⟩
              have m1 : (at0 : Int) + (bN : Int) = (s0 : Int) := by have := hs0.out; omega
              have m2 : (bN : Int) ≤ (k : Int) := by omega
              have m3 : (k : Int) ≤ (cl : Int) := by omega
              have m0 : (0 : Int) ≤ (bN : Int) := by omega
              have hsl : (sgm L bN k).length = k - bN := sgm_len (by rw [hn.out]; omega)
              obtain ⟨M, hM⟩ : ∃ M, Hid (Cut.cmp (sgm L bN k) s0 = M) := ⟨_, rfl⟩
              have iC := fun (c' : Nat) (a' : Option Addr) (hA' : At wr a' (sgm L bN k)) => Compact_any (s0 : Int) (sgm L bN k) a' c' wr (by have := hs0.out; omega) (by have := hs0.out; omega) (by omega) hA' (HZ.out.below BWr.out HZ.out.lt).t
              have ec : cmpE (s0 : Int) (sgm L bN k) = 0 := by
                unfold cmpE
                have h1 := hs0.out
                rw [hsl, if_pos ⟨by omega, by omega, by omega⟩, if_pos (by omega), if_pos (hsB_of (sgm_hs hs.out bN k))]
              have es1 : (s0 : Int) + ((k - bN : Nat) : Int) = (s1 : Int) := by have := hs0.out; have := hs1.out; omega
              rw [ec, hsl, Int.toNat_natCast, hM.out, es1] at iC
              have ALr := hid (AL.out.below BCr.out (Nat.le_of_eq HGC.out))
              obtain ⟨av, cv, rfl, kv1, kv2⟩ := hPm.out.own.shape
              obtain ⟨nq, hnq⟩ : ∃ nq, Hid (qs.length = nq) := ⟨_, rfl⟩
              have hPm2 := hPm.out
              rw [hnq.out] at hPm2 kv1 ⊢
              have HPm := hid hPm2
              obtain ⟨mM, hmM⟩ : ∃ mM, Hid (M.length = mM) := ⟨_, rfl⟩
              have HSL := hid hsl
              clear ec es1 hPm hPm2 hsl
              cases cbk
              · have hkn3 := hcnd.out rfl
                have e1 : ((k : Int) == (n : Int)) = true := by rw [hkn3]; simp
                clear hkn3 hcnd
                cases al with
                | none =>
                  have jC := iC (cl - bN) none (fun j p hp => by have := hNone.out rfl; have := (List.getElem?_eq_some_iff.1 hp).1; have := HSL.out; omega)
                  clear iC
                  go_wp2_with (go_at_call 8; fail)
                  refine jC.mono ?_
                  intro e w9 h9
                  obtain ⟨vr, rfl, OR, b9⟩ := h9.some5
                  rw [show sel 0 (s0 : Int) = (s0 : Int) from rfl, show sel 0 (s1 : Int) = (s1 : Int) from rfl, show selL 0 M = M from rfl] at *
                  obtain ⟨ar, cr, rfl, AR, _, _, _⟩ := OR.at_base
                  rw [hmM.out] at OR ⊢
                  clear jC h9
                  have hBsz : w8.heap.size ≤ wr.heap.size := hb.out.size
                  have al9 := (Below.refl w9.heap.size w9).alloc (Nat.le_refl _) (.cells #[Value.int .i64 (s0 : Int), .int .i64 (s1 : Int), .slice ar mM cr] 28)
                  have b10 := b9.trans (al9.mono b9.size)
                  have hx0 : pv ((s0, s1, M), ar, cr) = .slice ar mM cr := by unfold pv; rw [hmM.out]
                  have OR' : Own (w9.alloc (.cells #[Value.int .i64 (s0 : Int), .int .i64 (s1 : Int), .slice ar mM cr] 28)) w8.heap.size (pv ((s0, s1, M), ar, cr)) (svs M) := by rw [hx0]; exact (OR.mono hBsz).below al9 (Nat.le_refl _)
                  have hdis : ∀ k', (pv ((s0, s1, M), ar, cr)).ownBlock = some k' → (Value.slice av nq cv).ownBlock ≠ some k' := fun k' h1 h2 => by
                    rw [hx0] at h1
                    have h3 := OR.ge k' h1
                    have h4 := HPm.out.own.lt k' h2
                    omega
                  have hpm10 : Pm (w9.alloc (.cells #[Value.int .i64 (s0 : Int), .int .i64 (s1 : Int), .slice ar mM cr] 28)) w8.heap.size (.slice av nq cv) qs := HPm.out.below b10
                  obtain ⟨v', w11, hap, hpm11, b11⟩ := hpm10.push ((s0, s1, M), ar, cr) (Nat.le_trans hBsz b10.size) (by have := hql.out; have := hnq.out; omega) OR' hdis
                  obtain ⟨a6, c6, rfl, _, _⟩ := hpm11.own.shape
                  rw [size_alloc] at hap
                  have hap1 : (Builtin.append_ #[33, 33] 33 #[.slice av nq cv, .slice (some ⟨w9.heap.size + 1, 0, none⟩) 1 1]).run Tryd.prog ((w9.alloc (.cells #[Value.int .i64 (s0 : Int), .int .i64 (s1 : Int), .slice ar mM cr] 28)).alloc (.cells #[Value.int .i64 (s0 : Int), .int .i64 (s1 : Int), .slice ar mM cr] 28)) = .ok (.slice a6 (qs ++ [((s0, s1, M), ar, cr)]).length c6) w11 := by
                    have h1 := hap
                    unfold pc1 at h1
                    rw [hx0] at h1
                    exact h1
                  have HPm' := hid hpm11
                  have hCh' : Hid (Ch at0 L ((qs ++ [((s0, s1, M), ar, cr)]).map Prod.fst) 0 k) := by
                    unfold Hid
                    rw [List.map_append]
                    have h1 := hCh.out.snoc (t := k) hbk (by rw [hn.out]; omega)
                    rw [hs0.out, hs1.out, hM.out] at h1
                    exact h1
                  have hb' : Hid (Below w8.heap.size w8 w11) := hid (hb.out.trans ((b10.mono hBsz).trans b11))
                  have hl' : Hid (k + 1 = n + 1 → k = n ∧ qs ++ [((s0, s1, M), ar, cr)] ≠ []) := fun e => ⟨by omega, by simp⟩
                  have hq' : Hid ((qs ++ [((s0, s1, M), ar, cr)]).length ≤ k + 1) := by unfold Hid; rw [List.length_append]; have := hql.out; simp; omega
                  generalize hqs : qs ++ [((s0, s1, M), ar, cr)] = qs2 at *
                  generalize hnl : qs2.length = nq2 at hap1 HPm'
                  clear hap hpm11 hpm10 OR' hdis hx0 OR AR b9 al9 b10 b11 hqs hnl
                  go_wp2_with (at_builtin; go_must (refine Lib.wpList_append_run _ rfl _ _ 33 33 rfl _ _ rfl rfl _ _ hap1 ?_))
                  exact ⟨⟨k + 1, k, qs2, by go_num, rfl, by omega, by omega, by omega, hl', hq', HPm', hCh', hb'⟩, by simp [intOf]; omega⟩
                | some xl =>
                  by_cases hcl : cl = bN
                  · have hcl2 : cl - bN = 0 := by omega
                    clear hcl
                    have jC := iC 0 (some xl) (fun j p hp => by have := (List.getElem?_eq_some_iff.1 hp).1; have := HSL.out; omega)
                    clear iC
                    go_wp2_with (go_at_call 8; fail)
                    refine jC.mono ?_
                    intro e w9 h9
                    obtain ⟨vr, rfl, OR, b9⟩ := h9.some5
                    rw [show sel 0 (s0 : Int) = (s0 : Int) from rfl, show sel 0 (s1 : Int) = (s1 : Int) from rfl, show selL 0 M = M from rfl] at *
                    obtain ⟨ar, cr, rfl, AR, _, _, _⟩ := OR.at_base
                    rw [hmM.out] at OR ⊢
                    clear jC h9
                    have hBsz : w8.heap.size ≤ wr.heap.size := hb.out.size
                    have al9 := (Below.refl w9.heap.size w9).alloc (Nat.le_refl _) (.cells #[Value.int .i64 (s0 : Int), .int .i64 (s1 : Int), .slice ar mM cr] 28)
                    have b10 := b9.trans (al9.mono b9.size)
                    have hx0 : pv ((s0, s1, M), ar, cr) = .slice ar mM cr := by unfold pv; rw [hmM.out]
                    have OR' : Own (w9.alloc (.cells #[Value.int .i64 (s0 : Int), .int .i64 (s1 : Int), .slice ar mM cr] 28)) w8.heap.size (pv ((s0, s1, M), ar, cr)) (svs M) := by rw [hx0]; exact (OR.mono hBsz).below al9 (Nat.le_refl _)
                    have hdis : ∀ k', (pv ((s0, s1, M), ar, cr)).ownBlock = some k' → (Value.slice av nq cv).ownBlock ≠ some k' := fun k' h1 h2 => by
                      rw [hx0] at h1
                      have h3 := OR.ge k' h1
                      have h4 := HPm.out.own.lt k' h2
                      omega
                    have hpm10 : Pm (w9.alloc (.cells #[Value.int .i64 (s0 : Int), .int .i64 (s1 : Int), .slice ar mM cr] 28)) w8.heap.size (.slice av nq cv) qs := HPm.out.below b10
                    obtain ⟨v', w11, hap, hpm11, b11⟩ := hpm10.push ((s0, s1, M), ar, cr) (Nat.le_trans hBsz b10.size) (by have := hql.out; have := hnq.out; omega) OR' hdis
                    obtain ⟨a6, c6, rfl, _, _⟩ := hpm11.own.shape
                    rw [size_alloc] at hap
                    have hap1 : (Builtin.append_ #[33, 33] 33 #[.slice av nq cv, .slice (some ⟨w9.heap.size + 1, 0, none⟩) 1 1]).run Tryd.prog ((w9.alloc (.cells #[Value.int .i64 (s0 : Int), .int .i64 (s1 : Int), .slice ar mM cr] 28)).alloc (.cells #[Value.int .i64 (s0 : Int), .int .i64 (s1 : Int), .slice ar mM cr] 28)) = .ok (.slice a6 (qs ++ [((s0, s1, M), ar, cr)]).length c6) w11 := by
                      have h1 := hap
                      unfold pc1 at h1
                      rw [hx0] at h1
                      exact h1
                    have HPm' := hid hpm11
                    have hCh' : Hid (Ch at0 L ((qs ++ [((s0, s1, M), ar, cr)]).map Prod.fst) 0 k) := by
                      unfold Hid
                      rw [List.map_append]
                      have h1 := hCh.out.snoc (t := k) hbk (by rw [hn.out]; omega)
                      rw [hs0.out, hs1.out, hM.out] at h1
                      exact h1
                    have hb' : Hid (Below w8.heap.size w8 w11) := hid (hb.out.trans ((b10.mono hBsz).trans b11))
                    have hl' : Hid (k + 1 = n + 1 → k = n ∧ qs ++ [((s0, s1, M), ar, cr)] ≠ []) := fun e => ⟨by omega, by simp⟩
                    have hq' : Hid ((qs ++ [((s0, s1, M), ar, cr)]).length ≤ k + 1) := by unfold Hid; rw [List.length_append]; have := hql.out; simp; omega
                    generalize hqs : qs ++ [((s0, s1, M), ar, cr)] = qs2 at *
                    generalize hnl : qs2.length = nq2 at hap1 HPm'
                    clear hap hpm11 hpm10 OR' hdis hx0 OR AR b9 al9 b10 b11 hqs hnl
                    go_wp2_with (at_builtin; go_must (refine Lib.wpList_append_run _ rfl _ _ 33 33 rfl _ _ rfl rfl _ _ hap1 ?_))
                    exact ⟨⟨k + 1, k, qs2, by go_num, rfl, by omega, by omega, by omega, hl', hq', HPm', hCh', hb'⟩, by simp [intOf]; omega⟩
                  · have jC := iC (cl - bN) (some (xl.add bN)) ((ALr.out.take k).drop bN)
                    clear iC
                    go_wp2_with (go_at_call 8; fail)
                    refine jC.mono ?_
                    intro e w9 h9
                    obtain ⟨vr, rfl, OR, b9⟩ := h9.some5
                    rw [show sel 0 (s0 : Int) = (s0 : Int) from rfl, show sel 0 (s1 : Int) = (s1 : Int) from rfl, show selL 0 M = M from rfl] at *
                    obtain ⟨ar, cr, rfl, AR, _, _, _⟩ := OR.at_base
                    rw [hmM.out] at OR ⊢
                    clear jC h9
                    have hBsz : w8.heap.size ≤ wr.heap.size := hb.out.size
                    have al9 := (Below.refl w9.heap.size w9).alloc (Nat.le_refl _) (.cells #[Value.int .i64 (s0 : Int), .int .i64 (s1 : Int), .slice ar mM cr] 28)
                    have b10 := b9.trans (al9.mono b9.size)
                    have hx0 : pv ((s0, s1, M), ar, cr) = .slice ar mM cr := by unfold pv; rw [hmM.out]
                    have OR' : Own (w9.alloc (.cells #[Value.int .i64 (s0 : Int), .int .i64 (s1 : Int), .slice ar mM cr] 28)) w8.heap.size (pv ((s0, s1, M), ar, cr)) (svs M) := by rw [hx0]; exact (OR.mono hBsz).below al9 (Nat.le_refl _)
                    have hdis : ∀ k', (pv ((s0, s1, M), ar, cr)).ownBlock = some k' → (Value.slice av nq cv).ownBlock ≠ some k' := fun k' h1 h2 => by
                      rw [hx0] at h1
                      have h3 := OR.ge k' h1
                      have h4 := HPm.out.own.lt k' h2
                      omega
                    have hpm10 : Pm (w9.alloc (.cells #[Value.int .i64 (s0 : Int), .int .i64 (s1 : Int), .slice ar mM cr] 28)) w8.heap.size (.slice av nq cv) qs := HPm.out.below b10
                    obtain ⟨v', w11, hap, hpm11, b11⟩ := hpm10.push ((s0, s1, M), ar, cr) (Nat.le_trans hBsz b10.size) (by have := hql.out; have := hnq.out; omega) OR' hdis
                    obtain ⟨a6, c6, rfl, _, _⟩ := hpm11.own.shape
                    rw [size_alloc] at hap
                    have hap1 : (Builtin.append_ #[33, 33] 33 #[.slice av nq cv, .slice (some ⟨w9.heap.size + 1, 0, none⟩) 1 1]).run Tryd.prog ((w9.alloc (.cells #[Value.int .i64 (s0 : Int), .int .i64 (s1 : Int), .slice ar mM cr] 28)).alloc (.cells #[Value.int .i64 (s0 : Int), .int .i64 (s1 : Int), .slice ar mM cr] 28)) = .ok (.slice a6 (qs ++ [((s0, s1, M), ar, cr)]).length c6) w11 := by
                      have h1 := hap
                      unfold pc1 at h1
                      rw [hx0] at h1
                      exact h1
                    have HPm' := hid hpm11
                    have hCh' : Hid (Ch at0 L ((qs ++ [((s0, s1, M), ar, cr)]).map Prod.fst) 0 k) := by
                      unfold Hid
                      rw [List.map_append]
                      have h1 := hCh.out.snoc (t := k) hbk (by rw [hn.out]; omega)
                      rw [hs0.out, hs1.out, hM.out] at h1
                      exact h1
                    have hb' : Hid (Below w8.heap.size w8 w11) := hid (hb.out.trans ((b10.mono hBsz).trans b11))
                    have hl' : Hid (k + 1 = n + 1 → k = n ∧ qs ++ [((s0, s1, M), ar, cr)] ≠ []) := fun e => ⟨by omega, by simp⟩
                    have hq' : Hid ((qs ++ [((s0, s1, M), ar, cr)]).length ≤ k + 1) := by unfold Hid; rw [List.length_append]; have := hql.out; simp; omega
                    generalize hqs : qs ++ [((s0, s1, M), ar, cr)] = qs2 at *
                    generalize hnl : qs2.length = nq2 at hap1 HPm'
                    clear hap hpm11 hpm10 OR' hdis hx0 OR AR b9 al9 b10 b11 hqs hnl
                    go_wp2_with (at_builtin; go_must (refine Lib.wpList_append_run _ rfl _ _ 33 33 rfl _ _ rfl rfl _ _ hap1 ?_))
                    exact ⟨⟨k + 1, k, qs2, by go_num, rfl, by omega, by omega, by omega, hl', hq', HPm', hCh', hb'⟩, by simp [intOf]; omega⟩
              · clear hcnd
                cases al with
                | none =>
                  have jC := iC (cl - bN) none (fun j p hp => by have := hNone.out rfl; have := (List.getElem?_eq_some_iff.1 hp).1; have := HSL.out; omega)
                  clear iC
                  go_wp2_with (go_at_call 8; fail)
                  refine jC.mono ?_
                  intro e w9 h9
                  obtain ⟨vr, rfl, OR, b9⟩ := h9.some5
                  rw [show sel 0 (s0 : Int) = (s0 : Int) from rfl, show sel 0 (s1 : Int) = (s1 : Int) from rfl, show selL 0 M = M from rfl] at *
                  obtain ⟨ar, cr, rfl, AR, _, _, _⟩ := OR.at_base
                  rw [hmM.out] at OR ⊢
                  clear jC h9
                  have hBsz : w8.heap.size ≤ wr.heap.size := hb.out.size
                  have al9 := (Below.refl w9.heap.size w9).alloc (Nat.le_refl _) (.cells #[Value.int .i64 (s0 : Int), .int .i64 (s1 : Int), .slice ar mM cr] 28)
                  have b10 := b9.trans (al9.mono b9.size)
                  have hx0 : pv ((s0, s1, M), ar, cr) = .slice ar mM cr := by unfold pv; rw [hmM.out]
                  have OR' : Own (w9.alloc (.cells #[Value.int .i64 (s0 : Int), .int .i64 (s1 : Int), .slice ar mM cr] 28)) w8.heap.size (pv ((s0, s1, M), ar, cr)) (svs M) := by rw [hx0]; exact (OR.mono hBsz).below al9 (Nat.le_refl _)
                  have hdis : ∀ k', (pv ((s0, s1, M), ar, cr)).ownBlock = some k' → (Value.slice av nq cv).ownBlock ≠ some k' := fun k' h1 h2 => by
                    rw [hx0] at h1
                    have h3 := OR.ge k' h1
                    have h4 := HPm.out.own.lt k' h2
                    omega
                  have hpm10 : Pm (w9.alloc (.cells #[Value.int .i64 (s0 : Int), .int .i64 (s1 : Int), .slice ar mM cr] 28)) w8.heap.size (.slice av nq cv) qs := HPm.out.below b10
                  obtain ⟨v', w11, hap, hpm11, b11⟩ := hpm10.push ((s0, s1, M), ar, cr) (Nat.le_trans hBsz b10.size) (by have := hql.out; have := hnq.out; omega) OR' hdis
                  obtain ⟨a6, c6, rfl, _, _⟩ := hpm11.own.shape
                  rw [size_alloc] at hap
                  have hap1 : (Builtin.append_ #[33, 33] 33 #[.slice av nq cv, .slice (some ⟨w9.heap.size + 1, 0, none⟩) 1 1]).run Tryd.prog ((w9.alloc (.cells #[Value.int .i64 (s0 : Int), .int .i64 (s1 : Int), .slice ar mM cr] 28)).alloc (.cells #[Value.int .i64 (s0 : Int), .int .i64 (s1 : Int), .slice ar mM cr] 28)) = .ok (.slice a6 (qs ++ [((s0, s1, M), ar, cr)]).length c6) w11 := by
                    have h1 := hap
                    unfold pc1 at h1
                    rw [hx0] at h1
                    exact h1
                  have HPm' := hid hpm11
                  have hCh' : Hid (Ch at0 L ((qs ++ [((s0, s1, M), ar, cr)]).map Prod.fst) 0 k) := by
                    unfold Hid
                    rw [List.map_append]
                    have h1 := hCh.out.snoc (t := k) hbk (by rw [hn.out]; omega)
                    rw [hs0.out, hs1.out, hM.out] at h1
                    exact h1
                  have hb' : Hid (Below w8.heap.size w8 w11) := hid (hb.out.trans ((b10.mono hBsz).trans b11))
                  have hl' : Hid (k + 1 = n + 1 → k = n ∧ qs ++ [((s0, s1, M), ar, cr)] ≠ []) := fun e => ⟨by omega, by simp⟩
                  have hq' : Hid ((qs ++ [((s0, s1, M), ar, cr)]).length ≤ k + 1) := by unfold Hid; rw [List.length_append]; have := hql.out; simp; omega
                  generalize hqs : qs ++ [((s0, s1, M), ar, cr)] = qs2 at *
                  generalize hnl : qs2.length = nq2 at hap1 HPm'
                  clear hap hpm11 hpm10 OR' hdis hx0 OR AR b9 al9 b10 b11 hqs hnl
                  go_wp2_with (at_builtin; go_must (refine Lib.wpList_append_run _ rfl _ _ 33 33 rfl _ _ rfl rfl _ _ hap1 ?_))
                  exact ⟨⟨k + 1, k, qs2, by go_num, rfl, by omega, by omega, by omega, hl', hq', HPm', hCh', hb'⟩, by simp [intOf]; omega⟩
                | some xl =>
                  by_cases hcl : cl = bN
                  · have hcl2 : cl - bN = 0 := by omega
                    clear hcl
                    have jC := iC 0 (some xl) (fun j p hp => by have := (List.getElem?_eq_some_iff.1 hp).1; have := HSL.out; omega)
                    clear iC
                    go_wp2_with (go_at_call 8; fail)
                    refine jC.mono ?_
                    intro e w9 h9
                    obtain ⟨vr, rfl, OR, b9⟩ := h9.some5
                    rw [show sel 0 (s0 : Int) = (s0 : Int) from rfl, show sel 0 (s1 : Int) = (s1 : Int) from rfl, show selL 0 M = M from rfl] at *
                    obtain ⟨ar, cr, rfl, AR, _, _, _⟩ := OR.at_base
                    rw [hmM.out] at OR ⊢
                    clear jC h9
                    have hBsz : w8.heap.size ≤ wr.heap.size := hb.out.size
                    have al9 := (Below.refl w9.heap.size w9).alloc (Nat.le_refl _) (.cells #[Value.int .i64 (s0 : Int), .int .i64 (s1 : Int), .slice ar mM cr] 28)
                    have b10 := b9.trans (al9.mono b9.size)
                    have hx0 : pv ((s0, s1, M), ar, cr) = .slice ar mM cr := by unfold pv; rw [hmM.out]
                    have OR' : Own (w9.alloc (.cells #[Value.int .i64 (s0 : Int), .int .i64 (s1 : Int), .slice ar mM cr] 28)) w8.heap.size (pv ((s0, s1, M), ar, cr)) (svs M) := by rw [hx0]; exact (OR.mono hBsz).below al9 (Nat.le_refl _)
                    have hdis : ∀ k', (pv ((s0, s1, M), ar, cr)).ownBlock = some k' → (Value.slice av nq cv).ownBlock ≠ some k' := fun k' h1 h2 => by
                      rw [hx0] at h1
                      have h3 := OR.ge k' h1
                      have h4 := HPm.out.own.lt k' h2
                      omega
                    have hpm10 : Pm (w9.alloc (.cells #[Value.int .i64 (s0 : Int), .int .i64 (s1 : Int), .slice ar mM cr] 28)) w8.heap.size (.slice av nq cv) qs := HPm.out.below b10
                    obtain ⟨v', w11, hap, hpm11, b11⟩ := hpm10.push ((s0, s1, M), ar, cr) (Nat.le_trans hBsz b10.size) (by have := hql.out; have := hnq.out; omega) OR' hdis
                    obtain ⟨a6, c6, rfl, _, _⟩ := hpm11.own.shape
                    rw [size_alloc] at hap
                    have hap1 : (Builtin.append_ #[33, 33] 33 #[.slice av nq cv, .slice (some ⟨w9.heap.size + 1, 0, none⟩) 1 1]).run Tryd.prog ((w9.alloc (.cells #[Value.int .i64 (s0 : Int), .int .i64 (s1 : Int), .slice ar mM cr] 28)).alloc (.cells #[Value.int .i64 (s0 : Int), .int .i64 (s1 : Int), .slice ar mM cr] 28)) = .ok (.slice a6 (qs ++ [((s0, s1, M), ar, cr)]).length c6) w11 := by
                      have h1 := hap
                      unfold pc1 at h1
                      rw [hx0] at h1
                      exact h1
                    have HPm' := hid hpm11
                    have hCh' : Hid (Ch at0 L ((qs ++ [((s0, s1, M), ar, cr)]).map Prod.fst) 0 k) := by
                      unfold Hid
                      rw [List.map_append]
                      have h1 := hCh.out.snoc (t := k) hbk (by rw [hn.out]; omega)
                      rw [hs0.out, hs1.out, hM.out] at h1
                      exact h1
                    have hb' : Hid (Below w8.heap.size w8 w11) := hid (hb.out.trans ((b10.mono hBsz).trans b11))
                    have hl' : Hid (k + 1 = n + 1 → k = n ∧ qs ++ [((s0, s1, M), ar, cr)] ≠ []) := fun e => ⟨by omega, by simp⟩
                    have hq' : Hid ((qs ++ [((s0, s1, M), ar, cr)]).length ≤ k + 1) := by unfold Hid; rw [List.length_append]; have := hql.out; simp; omega
                    generalize hqs : qs ++ [((s0, s1, M), ar, cr)] = qs2 at *
                    generalize hnl : qs2.length = nq2 at hap1 HPm'
                    clear hap hpm11 hpm10 OR' hdis hx0 OR AR b9 al9 b10 b11 hqs hnl
                    go_wp2_with (at_builtin; go_must (refine Lib.wpList_append_run _ rfl _ _ 33 33 rfl _ _ rfl rfl _ _ hap1 ?_))
                    exact ⟨⟨k + 1, k, qs2, by go_num, rfl, by omega, by omega, by omega, hl', hq', HPm', hCh', hb'⟩, by simp [intOf]; omega⟩
                  · have jC := iC (cl - bN) (some (xl.add bN)) ((ALr.out.take k).drop bN)
                    clear iC
                    go_wp2_with (go_at_call 8; fail)
                    refine jC.mono ?_
                    intro e w9 h9
                    obtain ⟨vr, rfl, OR, b9⟩ := h9.some5
                    rw [show sel 0 (s0 : Int) = (s0 : Int) from rfl, show sel 0 (s1 : Int) = (s1 : Int) from rfl, show selL 0 M = M from rfl] at *
                    obtain ⟨ar, cr, rfl, AR, _, _, _⟩ := OR.at_base
                    rw [hmM.out] at OR ⊢
                    clear jC h9
                    have hBsz : w8.heap.size ≤ wr.heap.size := hb.out.size
                    have al9 := (Below.refl w9.heap.size w9).alloc (Nat.le_refl _) (.cells #[Value.int .i64 (s0 : Int), .int .i64 (s1 : Int), .slice ar mM cr] 28)
                    have b10 := b9.trans (al9.mono b9.size)
                    have hx0 : pv ((s0, s1, M), ar, cr) = .slice ar mM cr := by unfold pv; rw [hmM.out]
                    have OR' : Own (w9.alloc (.cells #[Value.int .i64 (s0 : Int), .int .i64 (s1 : Int), .slice ar mM cr] 28)) w8.heap.size (pv ((s0, s1, M), ar, cr)) (svs M) := by rw [hx0]; exact (OR.mono hBsz).below al9 (Nat.le_refl _)
                    have hdis : ∀ k', (pv ((s0, s1, M), ar, cr)).ownBlock = some k' → (Value.slice av nq cv).ownBlock ≠ some k' := fun k' h1 h2 => by
                      rw [hx0] at h1
                      have h3 := OR.ge k' h1
                      have h4 := HPm.out.own.lt k' h2
                      omega
                    have hpm10 : Pm (w9.alloc (.cells #[Value.int .i64 (s0 : Int), .int .i64 (s1 : Int), .slice ar mM cr] 28)) w8.heap.size (.slice av nq cv) qs := HPm.out.below b10
                    obtain ⟨v', w11, hap, hpm11, b11⟩ := hpm10.push ((s0, s1, M), ar, cr) (Nat.le_trans hBsz b10.size) (by have := hql.out; have := hnq.out; omega) OR' hdis
                    obtain ⟨a6, c6, rfl, _, _⟩ := hpm11.own.shape
                    rw [size_alloc] at hap
                    have hap1 : (Builtin.append_ #[33, 33] 33 #[.slice av nq cv, .slice (some ⟨w9.heap.size + 1, 0, none⟩) 1 1]).run Tryd.prog ((w9.alloc (.cells #[Value.int .i64 (s0 : Int), .int .i64 (s1 : Int), .slice ar mM cr] 28)).alloc (.cells #[Value.int .i64 (s0 : Int), .int .i64 (s1 : Int), .slice ar mM cr] 28)) = .ok (.slice a6 (qs ++ [((s0, s1, M), ar, cr)]).length c6) w11 := by
                      have h1 := hap
                      unfold pc1 at h1
                      rw [hx0] at h1
                      exact h1
                    have HPm' := hid hpm11
                    have hCh' : Hid (Ch at0 L ((qs ++ [((s0, s1, M), ar, cr)]).map Prod.fst) 0 k) := by
                      unfold Hid
                      rw [List.map_append]
                      have h1 := hCh.out.snoc (t := k) hbk (by rw [hn.out]; omega)
                      rw [hs0.out, hs1.out, hM.out] at h1
                      exact h1
                    have hb' : Hid (Below w8.heap.size w8 w11) := hid (hb.out.trans ((b10.mono hBsz).trans b11))
                    have hl' : Hid (k + 1 = n + 1 → k = n ∧ qs ++ [((s0, s1, M), ar, cr)] ≠ []) := fun e => ⟨by omega, by simp⟩
                    have hq' : Hid ((qs ++ [((s0, s1, M), ar, cr)]).length ≤ k + 1) := by unfold Hid; rw [List.length_append]; have := hql.out; simp; omega
                    generalize hqs : qs ++ [((s0, s1, M), ar, cr)] = qs2 at *
                    generalize hnl : qs2.length = nq2 at hap1 HPm'
                    clear hap hpm11 hpm10 OR' hdis hx0 OR AR b9 al9 b10 b11 hqs hnl
                    go_wp2_with (at_builtin; go_must (refine Lib.wpList_append_run _ rfl _ _ 33 33 rfl _ _ rfl rfl _ _ hap1 ?_))
                    exact ⟨⟨k + 1, k, qs2, by go_num, rfl, by omega, by omega, by omega, hl', hq', HPm', hCh', hb'⟩, by simp [intOf]; omega⟩
            · have hx : cbk = false := by
                cases cbk
                · rfl
                · exact absurd (Or.inl rfl) hdo
              subst hx
              have hkn2 : k ≠ n := fun e => hdo (.inr e)
              have e1 : ((k : Int) == (n : Int)) = false := beq_false_of_ne (by omega)
              have e2 : (k == n) = false := beq_false_of_ne hkn2
              have hl' : Hid (k + 1 = n + 1 → bN = n ∧ qs ≠ []) := fun e => by omega
              have hq' : Hid (qs.length ≤ k + 1) := Nat.le_trans hql.out (Nat.le_succ _)
              clear hdo hkn2
              go_wp2
              exact ⟨⟨k + 1, bN, qs, by go_num, rfl, by omega, by omega, by omega, hl', hq', hPm, hCh, hb⟩, by simp [intOf]; omega⟩
          · have c0 : ¬ (k : Int) ≤ (n : Int) := by omega
            obtain ⟨e1, e2⟩ := hlast.out (by omega)
            rw [e1] at hCh
            have HQ := hid e2
            have hqn : Hid (0 + qs.length ≤ n + 1) := by have := hql.out; unfold Hid; omega
            clear hk hbn hlast hql e1 e2 hkn
            go_wp2
            go_loopw [16, 21] (fun v i w' => ∃ (j : Nat) (qs : List Prv), i = .int .i64 (j : Int) ∧ Hid (qs ≠ []) ∧ Hid (j + qs.length ≤ n + 1) ∧ Hid (Pm w' w8.heap.size v qs) ∧ Hid (Ch at0 L (qs.map Prod.fst) 0 n) ∧ Hid (Below w8.heap.size w8 w')) (fun _ i _ => n + 1 - (intOf i).toNat)
            case atStart => exact ⟨0, qs, rfl, HQ, hqn, hPm, hCh, hb⟩
            case round =>
              clear hPm hCh hb HQ hqn
              obtain ⟨j, qs, rfl, HQ, hqn, hPm, hCh, hb⟩ := hrel
              obtain ⟨av, cv, rfl, kv1, kv2⟩ := hPm.out.own.shape
              obtain ⟨m, hm⟩ : ∃ m, Hid (qs.length = m) := ⟨_, rfl⟩
              have hPm2 := hPm.out
              have hqn2 := hqn.out
              rw [hm.out] at hPm2 hqn2 kv1 ⊢
              have hm0 : 0 < m := by have := List.length_pos_iff.2 HQ.out; rw [hm.out] at this; exact this
              obtain ⟨g, rfl⟩ : ∃ g, av = some ⟨g, 0, none⟩ := by
                rcases hPm2.own with ⟨h, _⟩ | ⟨g, cap, h, _⟩
                · injection h with h1 h2 h3; omega
                · injection h with h1; exact ⟨g, h1⟩
              have HPm := hid hPm2
              clear hPm hPm2
              by_cases hm1 : 1 < m
              · have c0 : (1 : Int) < (m : Int) := by omega
                have hjn : j ≤ n := by omega
                have BWr := hid (BW.out.trans (hb.out.mono BW.out.size))
                have hm200 : m ≤ 201 := by omega
                clear hqn2
                go_upto_if 122 with (fail)
                go_cut [22] from 113 to 159 (fun v w' => ∃ c : Int, v = .int .i64 c ∧ -9223372036854775808 ≤ c ∧ c ≤ 9223372036854775807 ∧ w' = wr)
                case first =>
                  by_cases hjo : j < no
                  · have c1 : (j : Int) < (no : Int) := by omega
                    have hjl : j < os.length := by rw [hno.out]; exact hjo
                    obtain ⟨y, rfl, _, hy⟩ := (HO.out.below BWr.out (Nat.le_refl _)) j os[j] (List.getElem?_eq_getElem hjl)
                    have hrg := HOR.out os[j] (List.getElem_mem hjl)
                    generalize os[j] = oj at *
                    go_wp2
                    go_meet
                    exact ⟨oj, rfl, hrg.1, hrg.2, rfl⟩
                  · have c1 : ¬ (j : Int) < (no : Int) := by omega
                    go_wp2
                    go_meet
                    exact ⟨(j : Int), rfl, by omega, by omega, rfl⟩
                case rest =>
                  obtain ⟨c, rfl, hc1, hc2, rfl⟩ := hcut
                  obtain ⟨wr, rfl⟩ : ∃ wr, wr = wc := ⟨_, rfl⟩
                  have i4 := pick_any c ((m : Int) - 1) hc1 hc2 (by omega) (by omega) wr
                  have g0 := pk_nonneg c ((m : Int) - 1) (by omega)
                  have g1 := pk_lt c ((m : Int) - 1) (by omega)
                  obtain ⟨u, hu⟩ : ∃ u : Nat, pk c ((m : Int) - 1) = (u : Int) := ⟨(pk c ((m : Int) - 1)).toNat, by omega⟩
                  rw [hu] at i4 g0 g1
                  clear hu g0
                  go_wp2_with (go_at_call 7; fail)
                  refine i4.mono ?_
                  rintro e w9 ⟨rfl, rfl⟩
                  clear i4
                  obtain ⟨wr, rfl⟩ : ∃ wr, wr = w9 := ⟨_, rfl⟩
                  have hul : u < qs.length := by rw [hm.out]; omega
                  have hul1 : u + 1 < qs.length := by rw [hm.out]; omega
                  obtain ⟨x, hx⟩ : ∃ x, qs[u]? = some x := ⟨_, List.getElem?_eq_getElem hul⟩
                  obtain ⟨y, hy⟩ : ∃ y, qs[u + 1]? = some y := ⟨_, List.getElem?_eq_getElem hul1⟩
                  obtain ⟨X, Y, V, k1, k2, k3, ex, ey, hch⟩ := hCh.out.at (i := u) (p := x.1) (q := y.1) (by rw [List.getElem?_map, hx]; rfl) (by rw [List.getElem?_map, hy]; rfl)
                  have hX3 := pcs_get qs u x hx
                  have hY3 := pcs_get qs (u + 1) y hy
                  have oX := (HPm.out.el x (List.mem_of_getElem? hx)).1
                  have oY := (HPm.out.el y (List.mem_of_getElem? hy)).1
                  have hgl : g < wr.heap.size := HPm.out.own.lt g rfl
                  have cellOf : ∀ (o : Nat) (v : Value), (pcs qs)[o]? = some v → wr.cell? ⟨g, o, none⟩ = some v := fun o v h => by
                    obtain ⟨g', cap', e, hc, _⟩ := HPm.out.own.cell h
                    injection e with e1
                    injection e1 with e1
                    injection e1 with e1
                    subst e1
                    exact hc
                  obtain ⟨⟨xb, xc, xH⟩, xa, xk⟩ := x
                  obtain ⟨⟨yb, ye, yH⟩, ya, yk⟩ := y
                  simp only [Prod.mk.injEq] at ex ey
                  obtain ⟨ex0, ex1, ex2⟩ := ex
                  obtain ⟨ey0, ey1, ey2⟩ := ey
                  obtain rfl : yb = xc := ey0.trans ex1.symm
                  have hj := ch_join hs.out (by rw [hn.out]; exact hat) k1 k2 k3
                  rw [← ex2, ← ey2, ← ex0, ← ex1, ← ey1] at hj
                  rw [← ex0, ← ey1] at hch
                  obtain ⟨M, hM⟩ : ∃ M, Hid (Cut.cmp (sgm L X V) xb = M) := ⟨_, rfl⟩
                  rw [hM.out] at hj hch
                  obtain ⟨_, _, eX, AX, cX1, cX2, _⟩ := oX.at_base
                  obtain ⟨_, _, eY, AY, cY1, cY2, _⟩ := oY.at_base
                  unfold pv at eX eY
                  injection eX with eX1 _ eX3
                  injection eY with eY1 _ eY3
                  simp only at eX1 eX3 eY1 eY3 AX AY cX1 cX2 cY1 cY2
                  subst eX1 eX3 eY1 eY3
                  obtain ⟨n1, h1⟩ : ∃ n1, Hid (xH.length = n1) := ⟨_, rfl⟩
                  obtain ⟨n2, h2⟩ : ∃ n2, Hid (yH.length = n2) := ⟨_, rfl⟩
                  obtain ⟨n3, h3⟩ : ∃ n3, Hid (M.length = n3) := ⟨_, rfl⟩
                  obtain ⟨u1, hu1⟩ : ∃ u1 : Nat, Hid (u + 1 = u1) := ⟨_, rfl⟩
                  have m1 : IntKind.i64.wrap ((u : Int) + 1) = (u1 : Int) := by have := hu1.out; rw [wrap_small _ (by omega) (by omega)]; omega
                  have g2 : (u1 : Int) < (m : Int) := by have := hu1.out; omega
                  have g20 : (0 : Int) ≤ (u1 : Int) := by omega
                  have g3 : (u : Int) < (m : Int) := by omega
                  have g30 : (0 : Int) ≤ (u : Int) := by omega
                  unfold pv at hX3 hY3
                  simp only at hX3 hY3
                  rw [h1.out] at hX3
                  rw [h2.out, hu1.out] at hY3
                  have S0 : S6 g (u * 3) (u1 * 3) (.int .i64 (xb : Int)) (.int .i64 (yb : Int)) (.slice xa n1 xk) (.int .i64 (yb : Int)) (.int .i64 (ye : Int)) (.slice ya n2 yk) wr :=
                    ⟨cellOf _ _ hX3.1, cellOf _ _ hX3.2.1, cellOf _ _ hX3.2.2, cellOf _ _ hY3.1, cellOf _ _ hY3.2.1, cellOf _ _ hY3.2.2⟩
                  obtain ⟨jA, jB⟩ := join_both wr (HZ.out.below BWr.out HZ.out.lt) xb yb ye xH yH M xa ya n1 n2 n3 xk yk h1.out h2.out h3.out (by have := h1.out; omega) (by have := h2.out; omega) AX AY hj.1 hj.2
                  have SZ := S0.below ((Below.refl wr.heap.size wr).alloc (Nat.le_refl _) (.cells #[Value.int .i64 0, .int .i64 0, .slice none 0 0] 28)) hgl
                  have HCH := hid hch
                  have HX := hid hx
                  have HY := hid hy
                  clear hX3 hY3 cellOf hj hch ex0 ex1 ex2 ey0 ey1 ey2 oX oY AX AY cX1 cX2 cY1 cY2 hx hy hul hul1
                  go_wp2_with (fail)
                  go_cut [24, 25] from 113 to 159 (fun v f w' => ∃ gr a k, v = .pointer (some ⟨gr, 0, none⟩) ∧ f = .int .i64 0 ∧ Hid (Jn wr w' gr xb ye a n3 k M))
                  case first =>
                    as_aux_lemma =>
                    go_region_held3 (fun w' => w'.cell? ⟨g, u * 3, none⟩ = some (.int .i64 (xb : Int)) ∧ w'.cell? ⟨g, u * 3 + 1, none⟩ = some (.int .i64 (yb : Int)) ∧ w'.cell? ⟨g, u * 3 + 2, none⟩ = some (.slice xa n1 xk) ∧ w'.cell? ⟨g, u1 * 3, none⟩ = some (.int .i64 (yb : Int)) ∧ w'.cell? ⟨g, u1 * 3 + 1, none⟩ = some (.int .i64 (ye : Int)) ∧ w'.cell? ⟨g, u1 * 3 + 2, none⟩ = some (.slice ya n2 yk)) (first | exact S0 | exact SZ | exact S9 | exact S9z | exact S9n) (first
                      | (go_at_call 9; refine jA.mono ?_; rintro e w9 ⟨a9, k9, rfl, hB9, H9⟩; have S9 := S0.below hB9.out hgl; have S9z := S9.below ((Below.refl w9.heap.size w9).alloc (Nat.le_refl _) (.cells #[Value.int .i64 0, .int .i64 0, .slice none 0 0] 28)) (Nat.lt_of_lt_of_le hgl hB9.out.size); have S9n := S0.below H9.out.bel hgl)
                      | (go_at_call 9; refine jB.mono ?_; rintro e w9 ⟨a9, k9, rfl, hB9, H9, R9⟩; have S9 := S0.below hB9.out hgl; have d0 := R9.c0; have d1 := R9.c1; have d2 := R9.c2; have f0 : w9.frozen? ⟨wr.heap.size, 0, none⟩ = false := frozen_of_row _ _ _ _ _ R9; have f1 : w9.frozen? ⟨wr.heap.size, 1, none⟩ = false := frozen_of_row _ _ _ _ _ R9; have f2 : w9.frozen? ⟨wr.heap.size, 2, none⟩ = false := frozen_of_row _ _ _ _ _ R9; have S9n := S0.below H9.out.bel hgl))
                    all_goals
                      go_wp2_with fail
                      go_meet
                      exact ⟨_, _, _, rfl, rfl, H9⟩
                  case rest =>
                    obtain ⟨gr, ar, kr, rfl, rfl, HJ⟩ := hcut
                    obtain ⟨w9, rfl⟩ : ∃ w9, w9 = wc := ⟨_, rfl⟩
                    have S9 := S0.below HJ.out.bel hgl
                    obtain ⟨s0, s1, s2, _, _, _⟩ := S9
                    clear jA jB S0 SZ g2
                    have hx0 : pv ((xb, ye, M), ar, kr) = .slice ar n3 kr := by unfold pv; rw [h3.out]
                    have hB8 : w8.heap.size ≤ wr.heap.size := hb.out.size
                    have P9 := HPm.out.below HJ.out.bel
                    have O9 : Own w9 w8.heap.size (pv ((xb, ye, M), ar, kr)) (svs M) := by rw [hx0]; exact HJ.out.own.mono hB8
                    have hne : ∀ k, (pv ((xb, ye, M), ar, kr)).ownBlock = some k → k ≠ g := fun k hk e => by rw [hx0] at hk; have := HJ.out.own.ge k hk; omega
                    obtain ⟨P10, b10⟩ := P9.put hm.out ((xb, ye, M), ar, kr) (i := u) (by omega) O9 hne
                    rw [hx0] at P10 b10
                    simp only at P10 b10
                    have hm9 := P9.own
                    rw [hm.out] at hm9
                    have f0 := hm9.fro (j := u * 3) (by omega)
                    have f1 := hm9.fro (j := u * 3 + 1) (by omega)
                    have f2 := hm9.fro (j := u * 3 + 2) (by omega)
                    have d0 := HJ.out.rg.c0
                    have d1 := HJ.out.rg.c1
                    have d2 := HJ.out.rg.c2
                    have hlen : (qs.set u ((xb, ye, M), ar, kr)).length = m := by rw [List.length_set]; exact hm.out
                    have hsh := set_shut qs u ((xb, ye, M), ar, kr) (by rw [hm.out]; omega)
                    obtain ⟨w10, hw10⟩ : ∃ w10, ((w9.setCell ⟨g, u * 3, none⟩ (.int .i64 (xb : Int))).setCell ⟨g, u * 3 + 1, none⟩ (.int .i64 (ye : Int))).setCell ⟨g, u * 3 + 2, none⟩ (.slice ar n3 kr) = w10 := ⟨_, rfl⟩
                    rw [hw10] at P10 b10
                    have B10 : Hid (Below w8.heap.size w8 w10) := hid (hb.out.trans ((HJ.out.bel.mono hB8).trans b10))
                    have hP := P10.below (Below.refl w10.heap.size w10).drew
                    obtain ⟨u2, hu2⟩ : ∃ u2 : Nat, Hid (u + 2 = u2) := ⟨_, rfl⟩
                    have m2 : IntKind.i64.wrap ((u : Int) + 2) = (u2 : Int) := by have := hu2.out; rw [wrap_small _ (by omega) (by omega)]; omega
                    have g4 : (u2 : Int) ≤ (m : Int) := by have := hu2.out; omega
                    have g40 : (0 : Int) ≤ (u2 : Int) := by omega
                    have g5 : (m : Int) ≤ (cv : Int) := by omega
                    have g6 : (u1 : Int) ≤ (cv : Int) := by have := hu1.out; omega
                    have g7 : (u2 : Int) ≤ (cv : Int) := by omega
                    have sh := fun (a : Addr) (ha : u + 2 < m → a = ⟨g, (u + 2) * 3, none⟩) (cc : Nat) => hP.shut (i := u) hlen (by omega) B10.out.size (by omega) a ha cc
                    rw [hsh, hu1.out, hu2.out] at sh
                    have HCHq : Hid (Ch at0 L ((qs.take u ++ ((xb, ye, M), ar, kr) :: qs.drop (u + 2)).map Prod.fst) 0 n) := by
                      unfold Hid
                      rw [List.map_append, List.map_cons, List.map_take, List.map_drop]
                      exact HCH.out
                    rw [hu2.out] at HCHq
                    have hlq : (qs.take u ++ ((xb, ye, M), ar, kr) :: qs.drop u2).length = m - 1 := by
                      have := hm.out; have := hu2.out
                      rw [List.length_append, List.length_cons, List.length_take, List.length_drop]; omega
                    generalize hqq : qs.take u ++ ((xb, ye, M), ar, kr) :: qs.drop u2 = qs2 at *
                    have hqn' : Hid (j + 1 + qs2.length ≤ n + 1) := by have := hqn.out; have := hm.out; unfold Hid; omega
                    have HQ' : Hid (qs2 ≠ []) := fun e => by rw [e] at hlq; simp at hlq; omega
                    clear hqq hsh hlen hne O9 P9 P10 b10 hm9 hx0 hP HCH HX HY HPm hlq
                    go_wp2_with (fail)
                    clear hw10 d0 d1 d2 f0 f1 f2 s0 s1 s2
                    obtain ⟨v11, w11, hap, P11, b11⟩ : ∃ v' w', (Builtin.append_ #[33, 33] 33 #[.slice (some ⟨g, 0, none⟩) u1 cv, .slice (if cv = u2 then some ⟨g, 0, none⟩ else some ⟨g, u2 * 3, none⟩) (m - u2) (cv - u2)]).run Tryd.prog w10.drew = .ok v' w' ∧ Pm w' w8.heap.size v' qs2 ∧ Below w8.heap.size w10.drew w' := by
                      by_cases hcv : cv = u2
                      · rw [if_pos hcv]
                        exact sh ⟨g, 0, none⟩ (fun e => by omega) (cv - u2)
                      · rw [if_neg hcv]
                        exact sh ⟨g, u2 * 3, none⟩ (fun e => rfl) (cv - u2)
                    have HP11 := hid P11
                    have B11 := hid (B10.out.trans ((Below.refl w8.heap.size w10).drew.trans b11))
                    clear sh P11 b11
                    go_region_held3 (fun _ => True) (trivial) (refine step_append_run rfl _ _ 33 rfl _ _ _ w11 rfl rfl hap ?_)
                    go_wp2
                    exact ⟨⟨j + 1, qs2, by go_num, HQ', hqn', HP11, HCHq, B11⟩, by simp [intOf]; omega⟩
              · have c0 : ¬ (1 : Int) < (m : Int) := by omega
                obtain rfl : m = 1 := by omega
                obtain ⟨⟨⟨xb, xe, xH⟩, xa, xk⟩, rfl⟩ : ∃ x, qs = [x] := List.length_eq_one_iff.1 hm.out
                have hone : (xb, xe, xH) = (at0, at0 + n, MA) := by
                  have h1 := hCh.out
                  rw [← hn.out] at h1
                  have h2 := Ch.one (p := (xb, xe, xH)) h1
                  rw [hMA.out, hn.out] at h2
                  exact h2
                simp only [Prod.mk.injEq] at hone
                obtain ⟨e1, e2, e3⟩ := hone
                have e1 := e1.symm
                have e3 := e3.symm
                subst e1 e2 e3
                have eP := (HPm.out.el _ (List.mem_singleton.2 rfl)).1
                obtain ⟨_, _, eX, AX, cX1, cX2, _⟩ := eP.at_base
                unfold pv at eX
                injection eX with eX1 _ eX3
                simp only at eX1 eX3 AX cX1 cX2
                subst eX1 eX3
                have hX3 := pcs_get [((at0, at0 + n, MA), xa, xk)] 0 _ rfl
                unfold pv at hX3
                simp only [hmA.out] at hX3 cX1
                have hgl : g < wr.heap.size := HPm.out.own.lt g rfl
                have cellOf : ∀ (o : Nat) (v : Value), (pcs [((at0, at0 + n, MA), xa, xk)])[o]? = some v → wr.cell? ⟨g, o, none⟩ = some v := fun o v h => by
                  obtain ⟨g', cap', e, hc, _⟩ := HPm.out.own.cell h
                  injection e with e1
                  injection e1 with e1
                  injection e1 with e1
                  subst e1
                  exact hc
                have bB : Below w6.heap.size w6 wr := by rw [HGC.out]; exact BC.out.trans (hb.out.mono (by omega))
                have RAr := RA.out.below bB
                have AMr := AM.out.below bB (Nat.le_refl _)
                have ALr := hid (AL.out.below bB (Nat.le_refl _))
                have BWr := hid (BW.out.trans (hb.out.mono BW.out.size))
                have hgAl : gA < wr.heap.size := lt_of_heap RAr
                have eE : ((at0 + n : Nat) : Int) = eA := by rw [← heA.out]; omega
                have c1' := cellOf 1 _ hX3.2.1
                rw [eE] at c1'
                have T0 : S33 g gA (.int .i64 (at0 : Int)) (.int .i64 eA) (.slice xa mA xk) (.int .i64 (at0 : Int)) (.int .i64 eA) (.slice aA mA cA) wr :=
                  ⟨cellOf 0 _ hX3.1, c1', cellOf 2 _ hX3.2.2, RAr.c0, RAr.c1, RAr.c2⟩
                have iS := fun w' (b : Below wr.heap.size wr w') => sameRange_yes (at0 : Int) eA MA xa aA xk cA w' (by rw [hmA.out]; omega) (AX.below b (Nat.le_refl _)) (AMr.below b (Nat.le_refl _))
                rw [hmA.out] at iS
                have RAr := hid RAr
                have AMr := hid AMr
                clear hX3 cellOf c1' eP AX HPm hCh hqn hqn2 HQ hm0
                go_wp2_with (fail)
                go_region_held3 (fun w' => w'.cell? ⟨g, 0, none⟩ = some (.int .i64 (at0 : Int)) ∧ w'.cell? ⟨g, 1, none⟩ = some (.int .i64 eA) ∧ w'.cell? ⟨g, 2, none⟩ = some (.slice xa mA xk) ∧ w'.cell? ⟨gA, 0, none⟩ = some (.int .i64 (at0 : Int)) ∧ w'.cell? ⟨gA, 1, none⟩ = some (.int .i64 eA) ∧ w'.cell? ⟨gA, 2, none⟩ = some (.slice aA mA cA)) (first | exact T0 | exact T9) ((go_at_call 10; refine (iS _ (Below.refl _ _).drew).mono ?_; rintro e w9 ⟨rfl, hB9⟩; have T9 := T0.below (drewBelow5 hB9) hgl hgAl))
                have hB9 := drewBelow5 hB9
                have RA9 := hid (RAr.out.below hB9)
                have AM9 := hid (AMr.out.below hB9 (Nat.le_refl _))
                have AL9 := hid (ALr.out.below hB9 (Nat.le_refl _))
                have B9 := hid (BWr.out.trans (hB9.mono BWr.out.size))
                have Z9 := hid (HZ.out.below B9.out HZ.out.lt)
                have hT9 := Z9.out.lt
                clear T9 T0 iS hB9 RAr AMr ALr BWr bB
                by_cases h0 : at0 = 0
                · have e1 : ((at0 : Int) != 0) = false := by rw [h0]; rfl
                  have hMA0 : Hid (Cut.cmp L 0 = MA) := by have := hMA.out; rw [h0] at this; exact this
                  obtain ⟨R, hR⟩ : ∃ R, Hid (Tree.root L = R) := ⟨_, rfl⟩
                  have hRO : Hid (rootO (at0 : Int) eA MA = (R, 0)) := by
                    have h1 := rootO_all hs.out (by rw [hn.out]; omega)
                    rw [hMA0.out, hR.out, hn.out] at h1
                    unfold Hid
                    rw [← heA.out, h0, show ((0 : Nat) : Int) = 0 from rfl, Int.zero_add]
                    exact h1
                  clear h0
                  go_wp2_with (go_at_call 11; fail)
                  refine (fNew_any _ hT9).mono ?_
                  rintro e w10 ⟨rfl, E10, b10⟩
                  have E10 := hid (EdL.nil E10)
                  have b10 := hid b10
                  go_wp2
                  go_loopw [28] (fun i w' => ∃ (t : Nat) (F : Nat → Prop), i = .int .i64 (t : Int) ∧ t ≤ n ∧ Hid (EdL w' w9.heap.size (L.take t) F) ∧ Hid (∀ k, F k → w9.heap.size ≤ k) ∧ Hid (Below w9.heap.size w9 w')) (fun i _ => n - (intOf i).toNat)
                  case atStart => exact ⟨0, _, rfl, by omega, E10, fun k hk => hk.1, b10⟩
                  case round =>
                    clear E10 b10
                    obtain ⟨t, F, rfl, ht, hE, hF, hB⟩ := hrel
                    by_cases htn : t < n
                    · have q0 : (t : Int) < (n : Int) := by omega
                      have A5 := AL9.out.below hB.out (Nat.le_refl _)
                      obtain ⟨y, rfl⟩ := A5.pos (by have := hn.out; omega)
                      obtain ⟨s, hsj, hcell⟩ := A5.cell t (by have := hn.out; omega)
                      have T5 := (Z9.out.below hB.out hT9).t
                      have h32 : s.data.toList.length = 32 := by rw [hsj.out]; exact hs.out _ (List.getElem_mem _)
                      have i1 := fAddL hE.out s.data.toList h32 (by rw [List.length_take]; omega) T5
                      rw [show sv s.data.toList = .string s from by cases s; rfl] at i1
                      have e1 : Hid (L.take t ++ [s.data.toList] = L.take (t + 1)) := by
                        unfold Hid
                        rw [hsj.out, List.take_append_getElem]
                      rw [e1.out] at i1
                      clear hsj A5 h32 e1
                      go_wp2_with (go_at_call 12; refine i1.mono ?_; rintro e w6 ⟨rfl, F6, E6, M6⟩)
                      obtain ⟨b6, f6⟩ := M6.below hB.out.size hF.out
                      exact ⟨⟨t + 1, F6, by go_num, by omega, E6, f6, hB.out.trans b6⟩, by simp [intOf]; omega⟩
                    · obtain rfl : t = n := by omega
                      have q0 : ¬ (t : Int) < (t : Int) := by omega
                      rw [← hn.out, List.take_length] at hE
                      have RAt := RA9.out.below hB.out
                      have ALt := AL9.out.below hB.out (Nat.le_refl _)
                      have AMt := hid (AM9.out.below hB.out (Nat.le_refl _))
                      have Zt := hid (Z9.out.below hB.out hT9)
                      have hgt : gA < wr.heap.size := lt_of_heap RAt
                      have i8 := Root_hs hs.out (by rw [hn.out]; omega) al cl wr (by rw [hn.out]; exact hl2) hc2 ALt Zt.out.t
                      rw [hn.out, hR.out] at i8
                      have iO := fun w' (b : Below wr.heap.size wr w') => RootOf5_any (at0 : Int) eA MA aA cA w' (by rw [hmA.out]; omega) (AMt.out.below b (Nat.le_refl _)) (Zt.out.next b)
                      rw [hRO.out, hmA.out] at iO
                      simp only at iO
                      have iR := fun w' (b : Below wr.heap.size wr w') => fRootL (Ed.below hE.out b) (Zt.out.next b).t hR
                      rw [svS R] at i8 iO iR
                      have EM : Hid (Ed wr w9.heap.size MA t F) := by
                        have h1 := hE.out
                        unfold EdL at h1
                        rw [hMA0.out, hn.out] at h1
                        exact h1
                      have iN := fun w' (b : Below wr.heap.size wr w') => fNodes_any (Ed.below EM.out b)
                      have iZ := fun w' (b : Below wr.heap.size wr w') => fSize_any (Ed.below EM.out b)
                      rw [hmA.out] at iN
                      have iQ := fun w' (b : Below wr.heap.size wr w') (a : Option Addr) (hh : At w' a MA) => same_yes MA a aA mA cA w' hh (AMt.out.below b (Nat.le_refl _)) (by rw [hmA.out]; omega)
                      rw [hmA.out] at iQ
                      have RAt := hid RAt
                      have rr2 : ((ByteArray.mk R.toArray).toList == (ByteArray.mk R.toArray).toList) = true := by simp
                      have BB := hid (B9.out.trans (hB.out.mono B9.out.size))
                      clear ALt hE hF
                      go_wp2_with (first
                        | (go_at_call 13; refine i8.mono ?_; rintro e w11 ⟨rfl, hw11⟩; have RA11 := RAt.out.below hw11; have p0 := RA11.c0; have p1 := RA11.c1; have p2 := RA11.c2)
                        | (go_at_call 14; refine (iO _ hw11).mono ?_; rintro e w12 ⟨rfl, hw12⟩))
                      have h12 := hid (hw11.trans (hw12.mono hw11.size))
                      have U0 := (RAt.out.below h12.out).c2
                      have hgt12 : gA < w12.heap.size := Nat.lt_of_lt_of_le hgt h12.out.size
                      have h12d := hid (h12.out.drew)
                      have iN12 := iN _ h12d.out
                      clear i8 iO p0 p1 p2 RA11 hw11 hw12
                      go_region_held3 (fun w' => w'.cell? ⟨gA, 2, none⟩ = some (.slice aA mA cA)) (first | exact U0 | exact U1 | exact U2) (first
                        | (go_at_call 16; refine iN12.mono ?_; rintro e w13 ⟨rfl, R13, hw13⟩; have U1 := (RAt.out.below (h12d.out.trans (hw13.mono h12d.out.size))).c2)
                        | (go_at_call 15; refine (iQ _ (h12d.out.trans (hw13.mono h12d.out.size)) _ R13.at).mono ?_; rintro e w14 ⟨rfl, hw14, _⟩; have U2 := (RAt.out.below ((h12d.out.trans (hw13.mono h12d.out.size)).trans (hw14.mono (Nat.le_trans h12d.out.size hw13.size)))).c2))
                      have h14 := hid ((h12d.out.trans (hw13.mono h12d.out.size)).trans (hw14.mono (Nat.le_trans h12d.out.size hw13.size)))
                      clear U1 U2 R13 hw13 hw14 iN12 iN iQ
                      go_wp2_with (first
                        | (go_at_call 17; refine (iR _ h14.out).mono ?_; rintro e w15 ⟨rfl, hw15⟩)
                        | (go_at_call 18; refine (iZ _ (h14.out.trans (hw15.mono h14.out.size))).mono ?_; rintro e w16 ⟨rfl, rfl⟩))
                      go_ret
                      have b16 := h14.out.trans (hw15.mono h14.out.size)
                      exact ⟨rfl, BB.out.trans (b16.mono BB.out.size)⟩
                · have e1 : ((at0 : Int) != 0) = true := by simp; omega
                  clear h0
                  go_wp2
                  go_ret
                  exact ⟨rfl, B9.out⟩
end Go.Proofs.YtnnohacciikofaaDoor
