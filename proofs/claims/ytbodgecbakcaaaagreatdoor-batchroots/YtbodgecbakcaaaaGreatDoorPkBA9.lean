import Derived.Test.YtbodgecbakcaaaaGreatDoorPkBA6
import Derived.Test.YtbodgecbakcaaaaGreatDoorPkBR1
import Derived.Deep.CutRange
import Derived.Deep.RegionHeld3
import Derived.Test.YtbodgecbakcaaaaGreatDoorPkFR1
import Derived.Test.YtbodgecbakcaaaaGreatDoorPkR5
import Derived.Lib.SmallJoins
/- Layer 12, the law: BatchRight (written by genBA9.py) -/
namespace Go.Proofs.YtbodgecbakcaaaaGreatDoor
open Go.RowKit Go.Shelf
namespace Bat
theorem ix_toN {l : List Int} (h : ∀ x ∈ l, 0 ≤ x) : ix (toN l) = l := by
  unfold ix toN
  rw [List.map_map]
  conv => rhs; rw [← List.map_id l]
  refine List.map_congr_left fun x hx => ?_
  have := h x hx
  simp only [Function.comp, id]
  omega
theorem BtI.set2 {w : World} {g : Nat} {n : Int} {vi vh : Value} (h : BtI w g n vi vh) (vh' : Value) : BtI (w.setCell ⟨g, 2, none⟩ vh') g n vi vh' := heap_setCell_same w g 2 _ _ _ h
theorem told_few20 {is : List Nat} {n : Nat} (n1 : 1 ≤ n) (n2 : n ≤ 1099511627776) (hup : is.Pairwise (· < ·)) (hlt : ∀ i ∈ is, i < n) (h0 : is ≠ []) (hl : is.length ≤ 20) : (Tree.othF n 0 n is).length ≤ 820 := by
  have c := (told_few (by omega) hup hlt h0).2
  have p41 : (2 : Nat) ^ 41 = 2199023255552 := by decide
  have hd : Tree.dg (n - 1) ≤ 41 := Tree.dg_le (by omega)
  have := Nat.mul_le_mul hl hd
  omega
set_option maxRecDepth 100000 in
set_option maxHeartbeats 8000000 in
theorem right12_law (sz c more : Int) (which : List Int) (a3 : Option Addr) (c3 : Nat) (w : World) (s1 : -9223372036854775808 ≤ sz) (s2 : sz ≤ 9223372036854775807) (r1 : -9223372036854775808 ≤ more) (r2 : more ≤ 9223372036854775807) (hw : which.length ≤ 9223372036854775807) (hin : ∀ c ∈ which, -9223372036854775808 ≤ c ∧ c ≤ 9223372036854775807) (hA3 : AtI w a3 which) (Z : Tb w) :
    Calls Tryz.prog 4 #[.int .i64 sz, .slice a3 which.length c3, .int .i64 c, .int .i64 more] w fun r w' => r = .returned (.bool true) ∧ Below w.heap.size w w' := by
  have i0 := known12_any w Z
  have HZ := hid Z
  have hT := Z.lt
  have HA3 := hid hA3
  have HIN := hid hin
  obtain ⟨mw, hmw⟩ : ∃ mw, which.length = mw := ⟨_, rfl⟩
  have HMW := hid hmw
  rw [hmw] at hw ⊢
  clear Z hA3 hin hmw
  go_enter Tryz.func4, Tryz.ntmps4
  go_wp2_with (go_at_call 5; fail)
  with_reducible refine i0.mono ?_
  rintro r w1 ⟨rfl, b1⟩
  have B1 := hid b1
  clear i0 b1
  obtain ⟨p, hp, hp'⟩ : ∃ p : Nat, pk sz 1099511627776 = (p : Int) ∧ p < 1099511627776 := ⟨(pk sz 1099511627776).toNat, by have := pk_nonneg sz 1099511627776 (by omega); omega, by have := pk_lt sz 1099511627776 (by omega); have := pk_nonneg sz 1099511627776 (by omega); omega⟩
  obtain ⟨p9, hp9, hp9'⟩ : ∃ p : Nat, pk more 9 = (p : Int) ∧ p < 9 := ⟨(pk more 9).toNat, by have := pk_nonneg more 9 (by omega); omega, by have := pk_lt more 9 (by omega); have := pk_nonneg more 9 (by omega); omega⟩
  have j5 := pick_any sz 1099511627776 s1 s2 (by omega) (by omega) w1
  have J9 := hid fun w' => pick_any more 9 r1 r2 (by omega) (by omega) w'
  rw [hp] at j5
  rw [hp9] at J9
  obtain ⟨n, hn⟩ : ∃ n : Nat, n = p + 1 := ⟨_, rfl⟩
  have hnw : IntKind.i64.wrap (1 + (p : Int)) = (n : Int) := by rw [IntKind.wrap_i64]; omega
  have hn1 : 1 ≤ n := by omega
  have hnk : n ≤ 1099511627776 := by omega
  clear hp hp' hn hp9
  go_wp2_with (go_at_call 7; fail)
  with_reducible refine j5.mono ?_
  rintro r w4 ⟨rfl, h0⟩
  have h0 := h0.symm
  subst h0
  have j6 := rights12_any which n hn1 (by omega) a3 c3 w1 (by rw [HMW.out]; omega) HIN.out (HA3.out.below B1.out (Nat.le_refl _))
  rw [HMW.out] at j6
  obtain ⟨cs, hcs⟩ : ∃ cs, rgs (fun c => pk c n) which 20 = cs := ⟨_, rfl⟩
  have hup : Hid (cs.Pairwise (· < ·)) := by unfold Hid; rw [← hcs]; exact rgs_up _ _ _
  have hcl : cs.length ≤ 20 := by rw [← hcs]; exact rgs_len _ _ _
  have hci : Hid (∀ x ∈ cs, 0 ≤ x ∧ x < (n : Int)) := by unfold Hid; rw [← hcs]; exact rgs_in (fun c => ⟨pk_nonneg c n (by omega), pk_lt c n (by omega)⟩) 20
  rw [hcs] at j6
  clear j5 hcs
  go_wp2_with (go_at_call 8; fail)
  with_reducible refine j6.mono ?_
  rintro r w2 ⟨v2, rfl, o2, b2⟩
  obtain ⟨a2, c2, hv2, hai, _, _⟩ := Own.atI o2
  subst hv2
  have B2 := hid (B1.out.trans (b2.mono B1.out.size))
  have A2 := hid hai
  obtain ⟨m2, hm2⟩ : ∃ m2, cs.length = m2 := ⟨_, rfl⟩
  have HM2 := hid hm2
  rw [hm2] at hcl ⊢
  clear j6 o2 b2 hai B1 hm2 hnw
  go_upto_if 27 with fail
  go_cut [11] from 28 to 30 (fun v w' => ∃ (ai : Option Addr) (ci : Nat) (is : List Nat), v = .slice ai is.length ci ∧ is.length ≤ 20 ∧ Hid (AtI w' ai (ix is)) ∧ Hid (is.Pairwise (· < ·) ∧ (∀ i ∈ is, i < n) ∧ is ≠ []) ∧ Hid (Below w2.heap.size w2 w'))
  case first =>
    by_cases hm0 : m2 = 0
    · subst hm0
      have q0 : (((0 : Nat) : Int) == 0) = true := rfl
      obtain ⟨n', hn'⟩ : ∃ n', n = n' + 1 := ⟨n - 1, by omega⟩
      have q1 : (n : Int) - 1 = (n' : Int) := by omega
      go_wp2
      go_meet
      refine ⟨some ⟨w2.heap.size, 0, none⟩, 1, [n'], rfl, by simp, ?_, ?_, ?_⟩
      · have hh := heap_alloc_new w2 (.cells #[.int .i64 (n' : Int)] 3)
        intro j q hq
        refine ⟨_, rfl, lt_of_heap hh, ?_⟩
        rw [Addr.add_mid, Nat.zero_add, cell_of_row _ _ _ _ _ _ hh]
        match j, hq with
        | 0, hq => simp [ix] at hq; simp [hq]
        | j + 1, hq => simp [ix] at hq
      · exact ⟨List.pairwise_singleton _ _, fun i hi => by rw [List.mem_singleton.1 hi]; omega, by simp⟩
      · exact (Below.refl _ _).alloc (Nat.le_refl _) _
    · have q0 : ((m2 : Int) == 0) = false := by simp; omega
      have hx := ix_toN fun x hx => (hci.out x hx).1
      go_wp2
      go_meet
      refine ⟨a2, c2, toN cs, by simp [toN, HM2.out], by simp [toN, HM2.out]; omega, ?_, ⟨?_, ?_, ?_⟩, Below.refl _ _⟩
      · unfold Hid; rw [hx]; exact A2.out
      · have hu := hup.out
        rw [← hx] at hu
        unfold ix at hu
        rw [List.pairwise_map] at hu
        exact hu.imp fun h => by omega
      · intro i hi
        have : (i : Int) ∈ cs := by rw [← hx]; exact List.mem_map.2 ⟨i, hi, rfl⟩
        have := (hci.out _ this).2
        omega
      · intro e
        apply hm0
        rw [← HM2.out, ← hx, e]
        rfl
  case rest =>
  obtain ⟨ai, ci, is, rfl, hcl', AI3, BO, b3⟩ := hcut
  revert wc
  intro wc AI3 b3
  have B3 := hid (B2.out.trans (b3.out.mono B2.out.size))
  clear A2 HM2 hup hci hcl b3 B2
  obtain ⟨tl, htl⟩ : ∃ tl, (Tree.othF n 0 n is).length = tl := ⟨_, rfl⟩
  have h820 : tl ≤ 820 := by rw [← htl]; exact told_few20 hn1 hnk BO.out.1 BO.out.2.1 BO.out.2.2 hcl'
  have ba := (Below.refl wc.heap.size wc).alloc (Nat.le_refl _) (.cells #[.int .i64 (n : Int), .slice ai is.length ci, .slice none 0 0] 25)
  have BT4 := BtI.new wc (n : Int) (.slice ai is.length ci) (.slice none 0 0)
  obtain ⟨w4, hw4⟩ : ∃ w4, wc.alloc (.cells #[.int .i64 (n : Int), .slice ai is.length ci, .slice none 0 0] 25) = w4 := ⟨_, rfl⟩
  rw [hw4] at ba BT4
  obtain ⟨q, hq⟩ : ∃ q, wc.heap.size = q := ⟨_, rfl⟩
  rw [hq] at BT4
  have B4 := hid (B3.out.trans (ba.mono B3.out.size))
  have AI4 := hid (AI3.out.below ba (Nat.le_refl _))
  have hq0 : Hid (w.heap.size ≤ q) := by unfold Hid; rw [← hq]; exact B3.out.size
  have hqi : Hid (∀ x, ai = some x → is ≠ [] → x.block < q) := fun x hx hne => by
    obtain ⟨p0, hp0⟩ : ∃ p0, (ix is)[0]? = some p0 := ⟨_, List.getElem?_eq_getElem (by rw [ix_len]; exact List.length_pos_iff.2 hne)⟩
    obtain ⟨y, hy, h1, _⟩ := AI3.out 0 p0 hp0
    rw [hx] at hy
    obtain rfl := Option.some.inj hy
    rw [← hq]
    exact h1
  have j7 := fun (w' : World) (hb : Below w4.heap.size w4 w') => rtold_any n 0 n is ai ci w' hn1 (Nat.le_refl _) (by omega) (by omega) (AI4.out.below hb (Nat.le_refl _))
  rw [Nat.zero_add] at j7
  have BT4 := hid BT4
  have HQ := hid hq
  have HW4 := hid hw4
  clear ba AI3 B3 hq hw4
  go_upto_region 7 with fail
  rw [HW4.out, HQ.out]
  clear HW4 HQ
  go_upto_region 8 with (go_at_call 9; (refine (j7 _ (Below.refl _ _)).mono ?_); rintro r w5 ⟨b5, v5, rfl, o5, _⟩; obtain ⟨a5, c5, e5, _, _⟩ := OwnM.shape o5; subst e5; rw [htl])
  have B5 := hid (B4.out.trans (b5.mono B4.out.size))
  have AI5 := hid (AI4.out.below b5 (Nat.le_refl _))
  have BT5 := hid (BT4.out.below b5)
  clear j7 b5 o5 B4 AI4 BT4 htl
  go_upto_if 40 with (go_at_call 7; (with_reducible refine (J9.out _).mono ?_); rintro r w6 ⟨rfl, h0⟩; have h0 := h0.symm; subst h0)
  go_cut [13] from 41 to 42 (fun v w' => ∃ m : Nat, v = .int .i64 (m : Int) ∧ m ≤ 821 ∧ w' = w5)
  case first =>
    by_cases h1 : p9 = 1
    · have q0 : ((p9 : Int) == 1) = true := by simp; omega
      go_wp2
      go_meet
      exact ⟨tl + 1, by go_num, by omega, rfl⟩
    · have q0 : ((p9 : Int) == 1) = false := by simp; omega
      go_wp2
      go_meet
      exact ⟨tl, rfl, by omega, rfl⟩
  case rest =>
  obtain ⟨m, rfl, hm821, hwc⟩ := hcut
  have hwc := hwc.symm
  subst hwc
  clear h820
  go_upto_region 10 with fail
  go_cut [49] from 43 to 48 (fun v w' => ∃ b : Bool, v = .bool b ∧ (b = true → 0 < m) ∧ w' = w5)
  case first =>
    by_cases h1 : p9 = 2
    · have q0 : ((p9 : Int) == 2) = true := by simp; omega
      clear h1
      by_cases h2 : 0 < m
      · have q1 : (0 : Int) < (m : Int) := by omega
        go_wp2_with (go_at_call 7; (with_reducible refine (J9.out _).mono ?_); rintro r w6 ⟨rfl, h0⟩; have h0 := h0.symm; subst h0)
        go_meet
        exact ⟨true, rfl, fun _ => h2, rfl⟩
      · have q1 : ¬ (0 : Int) < (m : Int) := by omega
        go_wp2_with (go_at_call 7; (with_reducible refine (J9.out _).mono ?_); rintro r w6 ⟨rfl, h0⟩; have h0 := h0.symm; subst h0)
        go_meet
        exact ⟨false, rfl, fun h => by simp at h, rfl⟩
    · have q0 : ((p9 : Int) == 2) = false := by simp; omega
      go_wp2_with (go_at_call 7; (with_reducible refine (J9.out _).mono ?_); rintro r w6 ⟨rfl, h0⟩; have h0 := h0.symm; subst h0)
      go_meet
      exact ⟨false, rfl, fun h => by simp at h, rfl⟩
  case rest =>
  obtain ⟨bb, rfl, hbb, hwc⟩ := hcut
  have hwc := hwc.symm
  subst hwc
  go_upto_if 49 with fail
  go_cut [13] from 50 to 51 (fun v w' => ∃ m : Nat, v = .int .i64 (m : Int) ∧ m ≤ 821 ∧ w' = w5)
  case first =>
    cases bb with
    | false =>
      go_wp2
      go_meet
      exact ⟨m, rfl, hm821, rfl⟩
    | true =>
      obtain ⟨m', hm'⟩ : ∃ m', m = m' + 1 := ⟨m - 1, by have := hbb rfl; omega⟩
      have q2 : (m : Int) - 1 = (m' : Int) := by omega
      go_wp2
      go_meet
      exact ⟨m', rfl, by omega, rfl⟩
  case rest =>
  clear hm821 hbb
  obtain ⟨m, rfl, hm821, hwc⟩ := hcut
  have hwc := hwc.symm
  subst hwc
  go_wp2
  go_loopw [14] (fun i w' => ∃ (j : Nat) (vh : Value) (H : List (List UInt8)), j ≤ m ∧ i = .int .i64 (j : Int) ∧ Hid (H.length = j) ∧ Hid (BtI w' q (n : Int) (.slice ai is.length ci) vh) ∧ Hid (Own w' w5.heap.size vh (svs H)) ∧ Hid (Keep (fun k => k = q) w5 w')) (fun i _ => m - (intOf i).toNat)
  case atStart => exact ⟨0, .slice none 0 0, [], by omega, rfl, rfl, BT5, Own.nil _ _, Keep.refl _ _⟩
  case round =>
    obtain ⟨j, vh, H, hj, rfl, hHl, hBT, hO, hK⟩ := hrel
    have z5 : q < w5.heap.size := lt_of_heap BT5.out
    by_cases hjm : j < m
    · have d0 : (j : Int) < (m : Int) := by omega
      obtain ⟨r, hr⟩ : ∃ r, Hid (lf (IntKind.i64.wrap (c + (j : Int))) = r) := ⟨_, rfl⟩
      have x0 : wr.drew.cell? ⟨q, 2, none⟩ = some vh := hBT.out.c2
      have iL := lleaf_at (IntKind.i64.wrap (c + (j : Int))) r hr wr.drew
      have zK := hK.out.size
      have hH2 := hHl.out
      rw [show sv r = Value.string ⟨r.toArray⟩ from rfl] at iL
      go_wp2
      go_region_law (first
        | (refine step_call12 rfl 10 #[.int .i64 (IntKind.i64.wrap (c + (j : Int)))] (by kernel_rfl) (fun v w6 => v = .string ⟨r.toArray⟩ ∧ Below wr.heap.size wr w6) (iL.mono fun e w6 h => ⟨_, h.1, rfl, drewBelow8 h.2⟩) ?_; rintro v6 w6 ⟨rfl, b6⟩; have BT6 := hBT.out.below b6; have x1 := BT6.c2; obtain ⟨v7, w7, hap, hO7, hb7⟩ := append_text w6 w5.heap.size vh H r (hO.out.below b6 (Nat.le_refl _)) (by omega) (Nat.le_trans zK b6.size); obtain ⟨a7, c7, hv7⟩ := Own.shape hO7; subst hv7; rw [show sv r = Value.string ⟨r.toArray⟩ from rfl] at hap; have x1a : (w6.alloc (.cells #[.string ⟨r.toArray⟩] 9)).cell? ⟨q, 2, none⟩ = some vh := (BT6.below ((Below.refl _ _).alloc (Nat.le_refl _) _)).c2; have BT7 : BtI w7 q (n : Int) (.slice ai is.length ci) vh := (hb7.block _ z5).trans BT6; have x7 := BT7.c2; have f7 : w7.frozen? ⟨q, 2, none⟩ = false := frozen_of_row _ _ _ _ _ BT7)
        | (refine step_append12 rfl _ _ 23 rfl _ _ _ w7 rfl rfl hap ?_))
      all_goals
        have k6 := hK.out.trans (Keep.ofBelow (S := fun k => k = q) b6) fun _ _ e => e
        have k67 : Keep (fun k => k = q) w5 w7 := ⟨hb7.os.trans k6.os, hb7.tape.trans k6.tape, hb7.output.trans k6.output, Nat.le_trans k6.size hb7.size, fun k hk hs => (hb7.block k hk).trans (k6.block k hk hs)⟩
        have BT8 := hid (BT7.set2 (.slice a7 (svs (H ++ [r])).length c7))
        have k8 := Keep.ofSet (S := fun k => k = q) w7 q 2 (.slice a7 (svs (H ++ [r])).length c7) rfl
        have K8 := hid (k67.trans k8 fun _ _ e => e)
        have O8 := hid (hO7.keep k8 fun k hk e => by have := hO7.ge k hk; omega)
        clear hap hO7 hb7 BT6 BT7 x1 x1a x7 f7 b6
        go_wp2
        exact ⟨⟨j + 1, _, H ++ [r], by omega, by go_num, by unfold Hid; rw [List.length_append, hH2]; rfl, BT8, O8, K8⟩, by simp [intOf]; omega⟩
    · obtain rfl : m = j := by omega
      have d0 : ¬ (m : Int) < (m : Int) := by omega
      obtain ⟨ah, ch, hvh, hAh, _, _⟩ := Own.at hO.out
      subst hvh
      rw [hHl.out] at hBT
      have BA : Hid (Below w.heap.size w wr) := B5.out.trans (keep_below hK.out (by have := B5.out.size; omega) fun k e => by have := hq0.out; omega)
      have AIA : Hid (AtI wr ai (ix is)) := fun jj p0 hp0 => by
        obtain ⟨x, e, h1, h2⟩ := AI5.out jj p0 hp0
        have hne : is ≠ [] := BO.out.2.2
        have := hqi.out x e hne
        exact ⟨x, e, Nat.lt_of_lt_of_le h1 hK.out.size, (World.cell?_of_block (hK.out.block (x.add jj).block (by rw [addr_block]; exact h1) (by rw [addr_block]; omega))).trans h2⟩
      obtain ⟨wA, hwA⟩ : ∃ wA, wA = wr := ⟨_, rfl⟩
      subst hwA
      have BHA := hid hAh
      have zA := hid (Nat.lt_of_lt_of_le z5 hK.out.size)
      have q8 : (p9 : Int).tdiv 8 = ((p9 / 8 : Nat) : Int) := by rw [Int.tdiv_eq_ediv_of_nonneg (by omega)]; rfl
      have q9 : (p9 : Int) / 8 = ((p9 / 8 : Nat) : Int) := rfl
      obtain ⟨N, hN⟩ : ∃ N, N = is.length + p9 / 8 := ⟨_, rfl⟩
      have hN2 : (is.length : Int) + ((p9 / 8 : Nat) : Int) = (N : Int) := by omega
      have hN3 : N ≤ 21 := by omega
      obtain ⟨u, hu⟩ : ∃ u, p9 / 8 = u := ⟨_, rfl⟩
      rw [hu] at q8 q9 hN2
      clear hO hK hAh hN hu B5 AI5 BT5
      go_wp2
      go_loopw [15, 16] (fun v i w' => ∃ (j2 : Nat) (L : List (List UInt8)), j2 ≤ N ∧ i = .int .i64 (j2 : Int) ∧ Hid (L.length = j2) ∧ Hid (Own w' wA.heap.size v (svs L)) ∧ Hid (Below wA.heap.size wA w')) (fun _ i _ => N - (intOf i).toNat)
      case atStart => exact ⟨0, [], by omega, rfl, rfl, Own.nil _ _, Below.refl _ _⟩
      case round =>
        obtain ⟨j2, L, hj2, rfl, hLl, hO, hB⟩ := hrel
        go_upto_if 73 with (go_at_call 7; (with_reducible refine (J9.out _).mono ?_); rintro r w6 ⟨rfl, h0⟩; have h0 := h0.symm; subst h0)
        by_cases hjm : j2 < N
        · have e0 : (j2 : Int) < (N : Int) := by omega
          obtain ⟨r, hr⟩ : ∃ r, Hid (lf (wrap64 (c - (j2 : Int))) = r) := ⟨_, rfl⟩
          have iL := lleaf_at (wrap64 (c - (j2 : Int))) r hr wr
          rw [show sv r = Value.string ⟨r.toArray⟩ from rfl] at iL
          have hL2 := hLl.out
          go_wp2_with (first
            | (go_at_call 10; (with_reducible refine iL.mono ?_); rintro r' w6 ⟨rfl, b6⟩; have hB6 := hB.out.trans (b6.mono hB.out.size); obtain ⟨v7, w7, hap, hO7, hb7⟩ := append_text w6 wA.heap.size _ L r (hO.out.below b6 (Nat.le_refl _)) (by omega) hB6.size; rw [show sv r = Value.string ⟨r.toArray⟩ from rfl] at hap; have B7 := hid (hB6.trans hb7); have O7 := hid hO7; clear b6 hb7 hO7)
            | (at_builtin; refine Lib.wpList_append_run _ rfl _ _ 23 23 rfl _ _ rfl rfl _ _ hap ?_))
          exact ⟨⟨j2 + 1, L ++ [r], by omega, by go_num, by unfold Hid; rw [List.length_append, hL2]; rfl, O7, B7⟩, by simp [intOf]; omega⟩
        · obtain rfl : N = j2 := by omega
          have e0 : ¬ (N : Int) < (N : Int) := by omega
          obtain ⟨la, lc, hlv, hla, _, _⟩ := Own.at hO.out
          subst hlv
          obtain ⟨wB, hwB⟩ : ∃ wB, wB = wr := ⟨_, rfl⟩
          subst hwB
          have BB := hid (BA.out.trans (hB.out.mono BA.out.size))
          have BTB := hid (hBT.out.below hB.out)
          have AIB := hid (AIA.out.below hB.out (Nat.le_refl _))
          have BHB := hid (BHA.out.below hB.out (Nat.le_refl _))
          have LVB := hid hla
          obtain ⟨r, hr⟩ : ∃ r, Hid (lf c = r) := ⟨_, rfl⟩
          have iL := hid fun w' => lleaf_at c r hr w'
          have jA := hid fun (w' : World) (hb : Below wB.heap.size wB w') => asks12_any (n : Int) r (ix is) H L (by rw [ix_len]; omega) (by rw [hHl.out]; omega) (by rw [hLl.out]; omega) (fun x hx => by
            obtain ⟨i, hi, rfl⟩ := List.mem_map.1 hx
            have := BO.out.2.1 i hi
            omega) ai ah la ci ch lc w' (AIB.out.below hb (Nat.le_refl _)) (BHB.out.below hb (Nat.le_refl _)) (LVB.out.below hb (Nat.le_refl _)) (HZ.out.below (BB.out.trans (hb.mono BB.out.size)) hT).t
          rw [hHl.out, hLl.out, ix_len] at jA
          rw [hLl.out]
          rw [show sv r = Value.string ⟨r.toArray⟩ from rfl] at iL jA
          have MV : Hid (∀ w', Below wB.heap.size wB w' → w'.cell? ⟨q, 0, none⟩ = some (.int .i64 (n : Int)) ∧ w'.cell? ⟨q, 1, none⟩ = some (.slice ai is.length ci) ∧ w'.cell? ⟨q, 2, none⟩ = some (.slice ah m ch)) := fun w' hb => ⟨(BTB.out.below hb).c0, (BTB.out.below hb).c1, (BTB.out.below hb).c2⟩
          have X0 := MV.out wB (Below.refl _ _)
          have B0 := hid (Below.refl wB.heap.size wB).drew
          clear hla hO hB hBT AIA BHA BA BTB AIB BHB LVB
          go_wp2
          go_region_held3 (fun W => W.cell? ⟨q, 0, none⟩ = some (.int .i64 (n : Int)) ∧ W.cell? ⟨q, 1, none⟩ = some (.slice ai is.length ci) ∧ W.cell? ⟨q, 2, none⟩ = some (.slice ah m ch)) (first | exact X0 | exact X1 | exact X2) (first
            | (go_at_call 10; (refine (iL.out _).mono ?_); rintro r' w6 ⟨rfl, b6⟩; have B6 := hid (B0.out.trans (b6.mono B0.out.size)); have X1 := MV.out _ B6.out; clear b6)
            | (go_at_call 6; (refine (jA.out _ B6.out).mono ?_); rintro r' w7 ⟨rfl, b7⟩; have B7 := hid (B6.out.trans (b7.mono B6.out.size)); have X2 := MV.out _ B7.out; clear b7))
          go_wp2
          go_ret
          exact ⟨rfl, BB.out.trans (B7.out.mono BB.out.size)⟩
end Bat
end Go.Proofs.YtbodgecbakcaaaaGreatDoor

namespace Go.Proofs.YtbodgecbakcaaaaGreatDoor
open Go.ChangeShapes Go.WideShapes Go.ChangeAt Go.RowKit
theorem gDB : Tryz.prog.globalNamed "math/bits.deBruijn64tab" = some 1 := by kernel_rfl
theorem gDBType : (Tryz.prog.globals[1]?).map (·.type) = some 138 := by kernel_rfl
theorem cells64b : Tryz.prog.cellsOf 138 = 64 := by kernel_rfl
theorem cells1b : Tryz.prog.cellsOf 5 = 1 := by kernel_rfl
def four : List (String × DataW Unit) := [("math/bits.deBruijn32tab", Rows.laid_math_bits_deBruijn32tab), ("math/bits.deBruijn64tab", Rows.laid_math_bits_deBruijn64tab), ("scrivener/digest.start", Rows.laid_scrivener_digest_start), ("scrivener/digest.rounds", Rows.laid_scrivener_digest_rounds)]
theorem tb_of {W : World} (h : laidMet Tryz.prog four W) : Tb W := by
  have h1 := laidMet.tail h
  have h2 : Lib.TabIs Tryz.prog W "math/bits.deBruijn64tab" .u8 (Lib.deBruijn64tab.map Int.ofNat) :=
    Lib.tabIs_of_head gDB gDBType Tryz.underlying138 Tryz.underlying5 cells1b cells64b (show laidMet Tryz.prog (("math/bits.deBruijn64tab", Lib.tabData .u8 (Lib.deBruijn64tab.map Int.ofNat)) :: _) W from h1)
  refine ⟨tabs_of (laidMet.tail h1), fun j hj => ?_⟩
  have := h2.cell gDB j (by rw [List.length_map]; exact hj)
  rw [this]
  simp [List.getD_eq_getElem?_getD]
  rw [List.getElem?_eq_getElem (show j < Lib.deBruijn64tab.length from hj)]; simp
noncomputable def laidWorld5 (os : Os) : World :=
  { laidWorld os with
    heap := ((laidWorld os).heap.modify 0 (fillObj (Lib.deBruijn32tab.map fun n => Value.int .u8 (Int.ofNat n)).toArray)).modify 1 (fillObj (Lib.deBruijn64tab.map fun n => Value.int .u8 (Int.ofNat n)).toArray) }
end Go.Proofs.YtbodgecbakcaaaaGreatDoor

namespace Go.Proofs.YtbodgecbakcaaaaGreatDoor
open Go.ChangeShapes Go.WideShapes Go.ChangeAt Go.RowKit
theorem bytesS : Tryz.prog.bytesOf 9 = 16 := by kernel_rfl
set_option maxRecDepth 100000 in
theorem open_atF {H : Type} {enc : TypeId × Value → H} {W : World} {base : Nat} {v : Value} {d : DataW H} {p : List MemPlace}
    (hval : Value.okWide Tryz.prog W .any base 23 v) (hd : DataW.Trod enc Tryz.prog W 0 (fun _ => true) true 23 v d p) (hk : ∀ x ∈ DataW.weights Tryz.prog 23 d, x ≤ reachBytes) :
    ∃ a l cap, v = .slice a l.length cap ∧ At W a l ∧ l.length ≤ cap ∧ cap ≤ 9223372036854775807 ∧ l.length ≤ 8796093021952 := by
  obtain ⟨a0, len0, cap0, rfl⟩ := okWide_slice Tryz.underlying23 hval
  obtain ⟨fuel, hf⟩ := hd
  rcases open_strings Tryz.underlying23 Tryz.underlying9 cellsS hf with ⟨hcs, hx⟩ | ⟨a, len, cap, ss, hcs, _, hl, hm, hz, hx, hcell, hsz⟩
  · simp [Value.cells] at hcs
    obtain ⟨rfl, rfl, rfl⟩ := hcs
    exact ⟨none, [], 0, rfl, At.nil _ _, by simp, by omega, by simp⟩
  · simp [Value.cells] at hcs
    obtain ⟨rfl, rfl, rfl⟩ := hcs
    simp only [Prod.mk.injEq] at hx
    obtain ⟨rfl, _⟩ := hx
    simp only [if_true] at hz
    have hlen : ((ss.take len0).map (·.data.toList)).length = len0 := by simp; omega
    have hw : cap0 * 16 ≤ reachBytes := by
      refine hk _ ?_
      rw [DataW.weights, Tryz.underlying23]
      simp only [bytesS]
      have e : (strs (H := H) (ss.take len0)).length + (strs (H := H) (ss.drop len0)).length = cap0 := by simp [strs]; omega
      rw [e]
      exact List.mem_cons_self
    have hr : reachBytes = 140737488351232 := rfl
    refine ⟨some a, (ss.take len0).map (·.data.toList), cap0, by rw [hlen], fun j p hp => ?_, by omega, hm, by omega⟩
    rw [List.getElem?_map, Option.map_eq_some_iff] at hp
    obtain ⟨s, hs, rfl⟩ := hp
    rw [List.getElem?_take] at hs
    split at hs
    · have hj := (List.getElem?_eq_some_iff.1 hs).1
      have hc := hcell j hj
      rw [List.getD_eq_getElem?_getD, hs] at hc
      refine ⟨a, rfl, ?_, hc⟩
      have := block_lt_of_cell hc
      rwa [addr_block] at this
    · cases hs
theorem weights_head {H : Type} {P : Program} {t : TypeId} {ts : List TypeId} {d : DataW H} {r : List (DataW H)} (h : (DataW.weightsEach P (t :: ts) (d :: r)).all (· ≤ reachBytes) = true) : ∀ x ∈ DataW.weights P t d, x ≤ reachBytes := fun x hx => by
  have := List.all_eq_true.1 h x (by rw [DataW.weightsEach]; exact List.mem_append_left _ hx)
  simpa using this
theorem weights_tail {H : Type} {P : Program} {t : TypeId} {ts : List TypeId} {d : DataW H} {r : List (DataW H)} (h : (DataW.weightsEach P (t :: ts) (d :: r)).all (· ≤ reachBytes) = true) : (DataW.weightsEach P ts r).all (· ≤ reachBytes) = true := by
  rw [List.all_eq_true] at h ⊢
  exact fun x hx => h x (by rw [DataW.weightsEach]; exact List.mem_append_right _ hx)
set_option maxRecDepth 100000 in
theorem open_strG {H : Type} {enc : TypeId × Value → H} {W : World} {base : Nat} {v : Value} {d : DataW H} {p : List MemPlace}
    (hval : Value.okWide Tryz.prog W .any base 9 v) (hd : DataW.Trod enc Tryz.prog W 0 (fun _ => true) true 9 v d p) (hk : ∀ x ∈ DataW.weights Tryz.prog 9 d, x ≤ reachBytes) :
    ∃ s : List UInt8, v = sv s ∧ s.length ≤ 140737488351232 := by
  obtain ⟨s0, rfl, rfl, rfl, hs0⟩ := ChangeMaps.open_string Tryz.underlying9 hval hd
  have hr : reachBytes = 140737488351232 := rfl
  have := hk s0.data.toList.length (by simp [DataW.weights])
  exact ⟨s0.data.toList, sv_eta s0, by omega⟩
end Go.Proofs.YtbodgecbakcaaaaGreatDoor

namespace Go.Proofs.YtbodgecbakcaaaaGreatDoor
open Go.ChangeShapes Go.WideShapes Go.ChangeAt Go.RowKit
theorem bytesI : Tryz.prog.bytesOf 3 = 8 := by kernel_rfl
set_option maxRecDepth 100000 in
theorem open_atIF {H : Type} {enc : TypeId × Value → H} {W : World} {base : Nat} {v : Value} {d : DataW H} {p : List MemPlace}
    (hval : Value.okWide Tryz.prog W .any base 22 v) (hd : DataW.Trod enc Tryz.prog W 0 (fun _ => true) true 22 v d p) (hk : ∀ x ∈ DataW.weights Tryz.prog 22 d, x ≤ reachBytes) :
    ∃ a l cap, v = .slice a l.length cap ∧ AtI W a l ∧ l.length ≤ cap ∧ cap ≤ 9223372036854775807 ∧ l.length ≤ 17592186043904 ∧ ∀ c ∈ l, -9223372036854775808 ≤ c ∧ c ≤ 9223372036854775807 := by
  obtain ⟨a0, len0, cap0, rfl⟩ := okWide_slice Tryz.underlying22 hval
  obtain ⟨fuel, hf⟩ := hd
  rcases open_ints Tryz.underlying22 Tryz.underlying3 cellsI hf with ⟨hcs, hx⟩ | ⟨a, len, cap, zs, hcs, _, hl, hm, hz, hx, hcell, hwf⟩
  · simp [Value.cells] at hcs
    obtain ⟨rfl, rfl, rfl⟩ := hcs
    exact ⟨none, [], 0, rfl, fun j p hp => by simp at hp, by simp, by omega, by simp, fun c hc => by simp at hc⟩
  · simp [Value.cells] at hcs
    obtain ⟨rfl, rfl, rfl⟩ := hcs
    simp only [Prod.mk.injEq] at hx
    obtain ⟨rfl, _⟩ := hx
    simp only [if_true] at hz
    have hlen : (zs.take len0).length = len0 := by simp; omega
    have hw : cap0 * 8 ≤ reachBytes := by
      refine hk _ ?_
      rw [DataW.weights, Tryz.underlying22]
      simp only [bytesI]
      have e : (lits (H := H) .i64 (zs.take len0)).length + (lits (H := H) .i64 (zs.drop len0)).length = cap0 := by simp [lits]; omega
      rw [e]
      exact List.mem_cons_self
    have hr : reachBytes = 140737488351232 := rfl
    refine ⟨some a, zs.take len0, cap0, by rw [hlen], fun j c hc => ?_, by omega, hm, by omega, fun c hc => wf_i64 (hwf c (List.mem_of_mem_take hc))⟩
    rw [List.getElem?_take] at hc
    split at hc
    · have hj := (List.getElem?_eq_some_iff.1 hc).1
      have hc' := hcell j hj
      rw [List.getD_eq_getElem?_getD, hc] at hc'
      refine ⟨a, rfl, ?_, hc'⟩
      have := block_lt_of_cell hc'
      rwa [addr_block] at this
    · cases hc
end Go.Proofs.YtbodgecbakcaaaaGreatDoor
