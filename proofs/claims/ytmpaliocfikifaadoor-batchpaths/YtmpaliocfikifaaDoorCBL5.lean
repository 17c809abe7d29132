import Derived.Test.YtmpaliocfikifaaDoorCBL4
import Derived.Test.YtmpaliocfikifaaDoorCI8
import Derived.Test.YtmpaliocfikifaaDoorCBW0
import Derived.Deep.CutRange
import Derived.Deep.RegionHeld3
namespace Go.Proofs.YtmpaliocfikifaaDoor
open Go.RowKit Go.Shelf
namespace Bat
theorem place12 {n k : Int} (h1 : 1 ≤ n) (h2 : n ≤ 1099511627776) (h3 : 0 ≤ k) (h4 : k < n) : lenOf n k = (((Tree.D n.toNat k.toNat).length : Int), 0) := by
  rw [lenOf, if_neg (by omega), if_neg (by omega)]
/-- all that is said of a batch that is right, with any hashes and leaves -/
structure Rgt (n : Nat) (is : List Nat) (H L : List (List UInt8)) (val : Nat × Nat → List UInt8) : Prop where
  V : Val is n H L val
  bo : BatOk (n : Int) (ix is)
  h8 : hsB8 H = true
  l8 : hsB8 L = true
  r32 : (val (0, n)).length = 32
  p32 : ∀ i ∈ is, hsB8 ((Tree.pthF n 0 n i).map val) = true
  up : ∀ i ∈ is, rootOf4 (n : Int) (i : Int) (val (i, i + 1)) ((Tree.pthF n 0 n i).map val) = (val (0, n), 0)
  lv : ∀ (k i : Nat), is[k]? = some i → L[k]? = some (val (i, i + 1))
  lt : ∀ i ∈ is, i < n
theorem rgt_is {n : Nat} {is : List Nat} {H L : List (List UInt8)} (bo : BatOk (n : Int) (ix is)) (hH : Tree.Hs H) (hL : Tree.Hs L) (hHl : H.length = (Tree.othF n 0 n is).length) (hLl : L.length = is.length) : ∃ val, Rgt n is H L val := by
  have n1 := bo.n1
  have n2 := bo.n2
  have hlt : ∀ i ∈ is, i < n := fun i hi => by
    have := bo.all (i : Int) (List.mem_map.2 ⟨i, hi, rfl⟩)
    omega
  have hup : is.Pairwise (· < ·) := by
    have := bo.so
    unfold ix at this
    rw [List.pairwise_map] at this
    exact this.imp fun h => by omega
  obtain ⟨val, V⟩ := val_is is n H L (by omega) (hup.imp fun h => by omega) hHl hLl
  have C : Cls is n (fun s => (val s).length = 32) := ⟨fun b m h2 ht p1 p2 => by rw [V.n b m h2 ht]; exact Tree.nd_length p1 p2, fun s hs => hH _ (by rw [V.h]; exact List.mem_map.2 ⟨s, hs, rfl⟩), fun i hi => hL _ (by rw [V.l]; exact List.mem_map.2 ⟨i, hi, rfl⟩)⟩
  have r32 := C.down n 0 n (by omega) (Nat.le_refl _) C.tt
  rw [Nat.zero_add] at r32
  have p32 : ∀ i ∈ is, hsB8 ((Tree.pthF n 0 n i).map val) = true := fun i hi => hsB_of fun x hx => by
    obtain ⟨s, hs, rfl⟩ := List.mem_map.1 hx
    exact C.path hi n 0 n (by omega) (Nat.le_refl _) (by omega) (by have := hlt i hi; omega) C.tt s hs
  refine ⟨val, V, bo, hsB_of hH, hsB_of hL, r32, p32, fun i hi => ?_, fun k i h => ?_, hlt⟩
  · have hin := hlt i hi
    have e := up_val V.n hi n 0 n (by omega) (Nat.le_refl _) (by omega) (by omega)
    rw [Nat.zero_add, Nat.sub_zero] at e
    have hlen : ((Tree.pthF n 0 n i).map val).length = (Tree.D n i).length := by rw [List.length_map, Tree.pthF_len n 0 n i (Nat.le_refl _) (by omega), Nat.sub_zero]
    have hlf := hL (val (i, i + 1)) (by rw [V.l]; exact List.mem_map.2 ⟨i, hi, rfl⟩)
    rw [rootOf4, place12 (by omega) (by omega) (by omega) (by omega), if_pos rfl, if_pos, Int.toNat_natCast, Int.toNat_natCast, e]
    unfold chk
    rw [if_pos ⟨hlf, p32 i hi⟩, if_pos (by rw [hlen, Int.toNat_natCast, Int.toNat_natCast])]
  · rw [V.l, List.getElem?_map, h, Option.map_some]
theorem hs_snoc {l : List (List UInt8)} (h : Tree.Hs l) {x : List UInt8} (hx : x.length = 32) : Tree.Hs (l ++ [x]) := fun y hy => by
  rcases List.mem_append.1 hy with hy | hy
  · exact h y hy
  · rw [List.mem_singleton.1 hy]; exact hx
theorem BtI.set2 {w : World} {g : Nat} {n : Int} {vi vh : Value} (h : BtI w g n vi vh) (vh' : Value) : BtI (w.setCell ⟨g, 2, none⟩ vh') g n vi vh' := heap_setCell_same w g 2 _ _ _ h
theorem told_820 {is : List Nat} {n : Nat} (bo : BatOk (n : Int) (ix is)) (hl : is.length ≤ 20) : (Tree.othF n 0 n is).length ≤ 820 := by
  have n1 := bo.n1
  have n2 := bo.n2
  have hlt : ∀ i ∈ is, i < n := fun i hi => by
    have := bo.all (i : Int) (List.mem_map.2 ⟨i, hi, rfl⟩)
    omega
  have hup : is.Pairwise (· < ·) := by
    have := bo.so
    unfold ix at this
    rw [List.pairwise_map] at this
    exact this.imp fun h => by omega
  have h0 : is ≠ [] := by
    intro e
    have := bo.l1
    rw [e] at this
    simp [ix] at this
  have c := (told_few (by omega) hup hlt h0).2
  have p41 : (2 : Nat) ^ 41 = 2199023255552 := by decide
  have hd : Tree.dg (n - 1) ≤ 41 := Tree.dg_le (by omega)
  have := Nat.mul_le_mul hl hd
  omega
set_option maxRecDepth 100000 in
set_option maxHeartbeats 8000000 in
theorem paths12_any (sz c : Int) (which : List Int) (other : List UInt8) (a3 : Option Addr) (c3 : Nat) (w : World) (s1 : -9223372036854775808 ≤ sz) (s2 : sz ≤ 9223372036854775807) (hw : which.length ≤ 9223372036854775807) (hin : ∀ c ∈ which, -9223372036854775808 ≤ c ∧ c ≤ 9223372036854775807) (hA3 : AtI w a3 which) (Z : Tb w) :
    Calls Tryd.prog 3 #[.int .i64 sz, .slice a3 which.length c3, .int .i64 c, sv other] w fun r w' => r = .returned (.bool true) ∧ Below w.heap.size w w' := by
  have i0 := known12_any w Z
  have HZ := hid Z
  have hT := Z.lt
  have HA3 := hid hA3
  have HIN := hid hin
  obtain ⟨mw, hmw⟩ : ∃ mw, which.length = mw := ⟨_, rfl⟩
  have HMW := hid hmw
  rw [hmw] at hw ⊢
  rw [show sv other = Value.string ⟨other.toArray⟩ from rfl]
  clear Z hA3 hin hmw
  go_enter Tryd.func3, Tryd.ntmps3
  go_wp2_with (go_at_call 5; fail)
  with_reducible refine i0.mono ?_
  rintro r w1 ⟨rfl, b1⟩
  have B1 := hid b1
  clear i0 b1
  obtain ⟨p, hp, hp'⟩ : ∃ p : Nat, pk sz 1099511627776 = (p : Int) ∧ p < 1099511627776 := ⟨(pk sz 1099511627776).toNat, by have := pk_nonneg sz 1099511627776 (by omega); omega, by have := pk_lt sz 1099511627776 (by omega); have := pk_nonneg sz 1099511627776 (by omega); omega⟩
  have j5 := pick_any sz 1099511627776 s1 s2 (by omega) (by omega) w1
  rw [hp] at j5
  obtain ⟨n, hn⟩ : ∃ n : Nat, n = p + 1 := ⟨_, rfl⟩
  have hnw : IntKind.i64.wrap (1 + (p : Int)) = (n : Int) := by rw [IntKind.wrap_i64]; omega
  have hn1 : 1 ≤ n := by omega
  have hnk : n ≤ 1099511627776 := by omega
  clear hp hp' hn
  go_wp2_with (go_at_call 6; fail)
  with_reducible refine j5.mono ?_
  rintro r w4 ⟨rfl, h0⟩
  have h0 := h0.symm
  subst h0
  have j6 := rights12_any which n hn1 (by omega) a3 c3 w1 (by rw [HMW.out]; omega) HIN.out (HA3.out.below B1.out (Nat.le_refl _))
  rw [HMW.out] at j6
  obtain ⟨cs, hcs⟩ : ∃ cs, rgs (fun c => pk c n) which 20 = cs := ⟨_, rfl⟩
  have hup : Hid (cs.Pairwise (· < ·)) := by unfold Hid; rw [← hcs]; exact rgs_up _ _ _
  have hcl : cs.length ≤ 20 := by rw [← hcs]; exact rgs_len _ _ _
  have hci : Hid (∀ x ∈ cs, 0 ≤ x ∧ x < (n : Int)) := by unfold Hid; rw [← hcs]; exact rgs_in (fun c => ⟨pk_nonneg c n (by omega), pk_lt c n (by omega)⟩) 20
  rw [hcs] at j6
  clear j5 hcs
  go_wp2_with (go_at_call 7; fail)
  with_reducible refine j6.mono ?_
  rintro r w2 ⟨v2, rfl, o2, b2⟩
  obtain ⟨a2, c2, hv2, hai, _, _⟩ := Own.atI o2
  subst hv2
  have B2 := hid (B1.out.trans (b2.mono B1.out.size))
  have A2 := hid hai
  obtain ⟨m2, hm2⟩ : ∃ m2, cs.length = m2 := ⟨_, rfl⟩
  have HM2 := hid hm2
  rw [hm2] at hcl ⊢
  clear j6 o2 b2 hai B1 hm2 hnw
  go_upto_if 36 with fail
  go_cut [11] from 37 to 37 (fun v w' => ∃ (ai : Option Addr) (ci : Nat) (is : List Nat), v = .slice ai is.length ci ∧ is.length ≤ 20 ∧ Hid (AtI w' ai (ix is)) ∧ Hid (BatOk (n : Int) (ix is)) ∧ Hid (Below w2.heap.size w2 w'))
  case first =>
    by_cases hm0 : m2 = 0
    · subst hm0
      have q0 : (((0 : Nat) : Int) == 0) = true := rfl
      go_wp2
      go_meet
      refine ⟨some ⟨w2.heap.size, 0, none⟩, 1, [0], rfl, by simp, ?_, ?_, ?_⟩
      · have hh := heap_alloc_new w2 (.cells #[.int .i64 0] 3)
        intro j q hq
        refine ⟨_, rfl, lt_of_heap hh, ?_⟩
        rw [Addr.add_mid, Nat.zero_add, cell_of_row _ _ _ _ _ _ hh]
        match j, hq with
        | 0, hq => simp [ix] at hq; simp [hq]
        | j + 1, hq => simp [ix] at hq
      · exact batOk_of hn1 hnk (by simp [ix]) (by intro x hx; simp [ix] at hx; omega) (by simp [ix]) (by simp [ix])
      · exact (Below.refl _ _).alloc (Nat.le_refl _) _
    · have q0 : ((m2 : Int) == 0) = false := by simp; omega
      have bo := batOk_of hn1 hnk hup.out hci.out (by rw [HM2.out]; omega) (by intro e; apply hm0; rw [← HM2.out, e]; rfl)
      go_wp2
      go_meet
      refine ⟨a2, c2, toN cs, by simp [toN, HM2.out], by simp [toN, HM2.out]; omega, ?_, ?_, Below.refl _ _⟩
      · unfold Hid; rw [bo.ix]; exact A2.out
      · unfold Hid; rw [bo.ix]; exact bo
  case rest =>
  obtain ⟨ai, ci, is, rfl, hcl', AI3, BO, b3⟩ := hcut
  have B3 := hid (B2.out.trans (b3.out.mono B2.out.size))
  clear A2 HM2 hup hci hcl b3 B2
  have hil : (ix is).length = is.length := by simp [ix]
  have j7 := count12_any (n : Int) (ix is) ai ci wc (by omega) AI3.out
  rw [batchL_is BO.out, tolE_zero.2 (batchE_ok BO.out), hil] at j7
  obtain ⟨hl, hhl⟩ : ∃ hl, (Tree.othF n 0 n is).length = hl := ⟨_, rfl⟩
  have HHL := hid hhl
  have h820 : hl ≤ 820 := by rw [← hhl]; exact told_820 BO.out hcl'
  rw [hhl] at j7
  clear hhl
  go_wp2_with (go_at_call 8; fail)
  with_reducible refine j7.mono ?_
  rintro r w4 ⟨rfl, b4⟩
  have B4 := hid (B3.out.trans (b4.mono B3.out.size))
  have AI4 := hid (AI3.out.below b4 (Nat.le_refl _))
  clear B3 AI3
  clear j7 b4
  have B4x := hid B4.out.size
  have AI4x := AI4
  have n4096 : ¬ (4096 : Int) < (hl : Int) := by omega
  have n0 : ¬ (hl : Int) < 0 := by omega
  have ba := (Below.refl w4.heap.size w4).alloc (Nat.le_refl _) (.cells #[.int .i64 (n : Int), .slice ai is.length ci, .slice none 0 0] 31)
  have BT5 := hid (BtI.new w4 (n : Int) (.slice ai is.length ci) (.slice none 0 0))
  have B5 := hid (B4.out.trans (ba.mono B4.out.size))
  have AI5 := hid (AI4.out.below ba (Nat.le_refl _))
  clear B4 AI4
  go_upto_region 10 with fail
  have z5 : w4.heap.size < (w4.alloc (.cells #[.int .i64 (n : Int), .slice ai is.length ci, .slice none 0 0] 31)).heap.size := by simp
  generalize w4.alloc (.cells #[.int .i64 (n : Int), .slice ai is.length ci, .slice none 0 0] 31) = w5 at *
  have Z5 := hid z5
  clear ba z5
  go_wp2
  go_loopw [15] (fun i w' => ∃ (j : Nat) (vh : Value) (H : List (List UInt8)), j ≤ hl ∧ i = .int .i64 (j : Int) ∧ Hid (H.length = j) ∧ Hid (Tree.Hs H) ∧ Hid (BtI w' w4.heap.size (n : Int) (.slice ai is.length ci) vh) ∧ Hid (Own w' w5.heap.size vh (svs H)) ∧ Hid (Keep (fun k => k = w4.heap.size) w5 w')) (fun i _ => hl - (intOf i).toNat)
  case atStart => exact ⟨0, .slice none 0 0, [], by omega, rfl, rfl, (fun x hx => by cases hx), BT5, Own.nil _ _, Keep.refl _ _⟩
  case round =>
    obtain ⟨j, vh, H, hj, rfl, hHl, hHs, hBT, hO, hK⟩ := hrel
    by_cases hjm : j < hl
    · have d0 : (j : Int) < (hl : Int) := by omega
      obtain ⟨r, hr⟩ : ∃ r, Hid (lf (IntKind.i64.wrap (c + (j : Int))) = r) := ⟨_, rfl⟩
      have r32 : r.length = 32 := by rw [← hr.out, lf_length]
      have x0 : wr.drew.cell? ⟨w4.heap.size, 2, none⟩ = some vh := hBT.out.c2
      have iL := lleaf_at (IntKind.i64.wrap (c + (j : Int))) r hr wr.drew
      have zK := hK.out.size
      have hH2 := hHl.out
      rw [show sv r = Value.string ⟨r.toArray⟩ from rfl] at iL
      have z5 := Z5.out
      go_wp2
      go_region_law (first
        | (refine step_call12 rfl 9 #[.int .i64 (IntKind.i64.wrap (c + (j : Int)))] (by kernel_rfl) (fun v w6 => v = .string ⟨r.toArray⟩ ∧ Below wr.heap.size wr w6) (iL.mono fun e w6 h => ⟨_, h.1, rfl, drewBelow8 h.2⟩) ?_; rintro v6 w6 ⟨rfl, b6⟩; have BT6 := hBT.out.below b6; have x1 := BT6.c2; obtain ⟨v7, w7, hap, hO7, hb7⟩ := append_text w6 w5.heap.size vh H r (hO.out.below b6 (Nat.le_refl _)) (by omega) (Nat.le_trans zK b6.size); obtain ⟨a7, c7, hv7⟩ := Own.shape hO7; subst hv7; rw [show sv r = Value.string ⟨r.toArray⟩ from rfl] at hap; have x1a : (w6.alloc (.cells #[.string ⟨r.toArray⟩] 9)).cell? ⟨w4.heap.size, 2, none⟩ = some vh := (BT6.below ((Below.refl _ _).alloc (Nat.le_refl _) _)).c2; have BT7 : BtI w7 w4.heap.size (n : Int) (.slice ai is.length ci) vh := (hb7.block _ z5).trans BT6; have x7 := BT7.c2; have f7 : w7.frozen? ⟨w4.heap.size, 2, none⟩ = false := frozen_of_row _ _ _ _ _ BT7)
        | (refine step_append12 rfl _ _ 29 rfl _ _ _ w7 rfl rfl hap ?_))
      all_goals
        have k6 := hK.out.trans (Keep.ofBelow (S := fun k => k = w4.heap.size) b6) fun _ _ e => e
        have k67 : Keep (fun k => k = w4.heap.size) w5 w7 := ⟨hb7.os.trans k6.os, hb7.tape.trans k6.tape, hb7.output.trans k6.output, Nat.le_trans k6.size hb7.size, fun k hk hs => (hb7.block k hk).trans (k6.block k hk hs)⟩
        have BT8 := hid (BT7.set2 (.slice a7 (svs (H ++ [r])).length c7))
        have k8 := Keep.ofSet (S := fun k => k = w4.heap.size) w7 w4.heap.size 2 (.slice a7 (svs (H ++ [r])).length c7) rfl
        have K8 := hid (k67.trans k8 fun _ _ e => e)
        have O8 := hid (hO7.keep k8 fun k hk e => by have := hO7.ge k hk; omega)
        clear hap hO7 hb7 BT6 BT7 x1 x1a x7 f7 b6
        go_wp2
        exact ⟨⟨j + 1, _, H ++ [r], by omega, by go_num, by unfold Hid; rw [List.length_append, hH2]; rfl, hs_snoc hHs.out r32, BT8, O8, K8⟩, by simp [intOf]; omega⟩
    · obtain rfl : j = hl := by omega
      have d0 : ¬ (j : Int) < (j : Int) := by omega
      obtain ⟨ah, ch, hvh, hAh, _, _⟩ := Own.at hO.out
      subst hvh
      rw [hHl.out] at hBT
      have z5 := Z5.out
      have BA : Hid (Below w.heap.size w wr) := B5.out.trans (keep_below hK.out (by have := B5.out.size; omega) fun k e => by have := B4x.out; omega)
      have AIA : Hid (AtI wr ai (ix is)) := fun jj q hq => by
        obtain ⟨x, e, h1, h2⟩ := AI5.out jj q hq
        obtain ⟨x', e', h1', _⟩ := AI4x.out jj q hq
        rw [e] at e'
        cases e'
        exact ⟨x, e, Nat.lt_of_lt_of_le h1 hK.out.size, (World.cell?_of_block (hK.out.block (x.add jj).block (by rw [addr_block]; exact h1) (by rw [addr_block]; omega))).trans h2⟩
      obtain ⟨wA, hwA⟩ : ∃ wA, wA = wr := ⟨_, rfl⟩
      subst hwA
      have BHA := hid hAh
      clear hO hK hAh
      go_wp2
      go_loopw [16, 17] (fun v i w' => ∃ (j2 : Nat) (L : List (List UInt8)), j2 ≤ is.length ∧ i = .int .i64 (j2 : Int) ∧ Hid (L.length = j2) ∧ Hid (Tree.Hs L) ∧ Hid (Own w' wA.heap.size v (svs L)) ∧ Hid (Below wA.heap.size wA w')) (fun _ i _ => is.length - (intOf i).toNat)
      case atStart => exact ⟨0, [], by omega, rfl, rfl, (fun x hx => by cases hx), Own.nil _ _, Below.refl _ _⟩
      case round =>
        obtain ⟨j2, L, hj2, rfl, hLl, hLs, hO, hB⟩ := hrel
        by_cases hjm : j2 < is.length
        · have e0 : (j2 : Int) < (is.length : Int) := by omega
          obtain ⟨r, hr⟩ : ∃ r, Hid (lf (wrap64 (wrap64 (c - 1) - (j2 : Int))) = r) := ⟨_, rfl⟩
          have r32 : r.length = 32 := by rw [← hr.out, lf_length]
          have iL := lleaf_at (wrap64 (wrap64 (c - 1) - (j2 : Int))) r hr wr
          rw [show sv r = Value.string ⟨r.toArray⟩ from rfl] at iL
          have hL2 := hLl.out
          go_wp2_with (first
            | (go_at_call 9; (with_reducible refine iL.mono ?_); rintro r' w6 ⟨rfl, b6⟩; have hB6 := hB.out.trans (b6.mono hB.out.size); obtain ⟨v7, w7, hap, hO7, hb7⟩ := append_text w6 wA.heap.size _ L r (hO.out.below b6 (Nat.le_refl _)) (by omega) hB6.size; rw [show sv r = Value.string ⟨r.toArray⟩ from rfl] at hap; have B7 := hid (hB6.trans hb7); have O7 := hid hO7; clear b6 hb7 hO7)
            | (at_builtin; refine Lib.wpList_append_run _ rfl _ _ 29 29 rfl _ _ rfl rfl _ _ hap ?_))
          exact ⟨⟨j2 + 1, L ++ [r], by omega, by go_num, by unfold Hid; rw [List.length_append, hL2]; rfl, hs_snoc hLs.out r32, O7, B7⟩, by simp [intOf]; omega⟩
        · obtain rfl : j2 = is.length := by omega
          have e0 : ¬ (is.length : Int) < (is.length : Int) := by omega
          obtain ⟨la, lc, hlv, hla, _, _⟩ := Own.at hO.out
          subst hlv
          obtain ⟨val, RG⟩ := rgt_is BO.out hHs.out hLs.out (by rw [hHl.out, HHL.out]) hLl.out
          obtain ⟨wB, hwB⟩ : ∃ wB, wB = wr := ⟨_, rfl⟩
          subst hwB
          have BB := hid (BA.out.trans (hB.out.mono BA.out.size))
          have BTB := hid (hBT.out.below hB.out)
          have AIB := hid (AIA.out.below hB.out (Nat.le_refl _))
          have BHB := hid (BHA.out.below hB.out (Nat.le_refl _))
          have LVB := hid hla
          have HRG := hid RG
          have jR := fun w' (hb : Below wB.heap.size wB w') => root12_ok n is H L val RG.V BO.out RG.h8 RG.l8 ai ah la ci ch lc w' (HZ.out.below (BB.out.trans (hb.mono BB.out.size)) hT).t (AIB.out.below hb (Nat.le_refl _)) (BHB.out.below hb (Nat.le_refl _)) (LVB.out.below hb (Nat.le_refl _))
          have jE := expand12_ok n is H L val RG.V BO.out RG.h8 RG.l8 ai ah la ci ch lc
          rw [hHl.out, hLl.out] at jR jE
          have jc := fun (root : List UInt8) (d : Int) (hd : d = if (0 : Int) = 0 then (if val (0, n) = root then 0 else 123) else 0) w' (hb : Below wB.heap.size wB w') => check12_any (n : Int) H L is.length ai ah la ci ch lc (val (0, n)) root 0 d w' (fun w'' hb' => by
            have := jR w'' (hb.trans (hb'.mono hb.size))
            rw [hHl.out, hLl.out]
            exact this.mono fun r w3 h => ⟨h.1, h.2.2⟩) hd
          rw [hHl.out, hLl.out] at jc
          have R32 := RG.r32
          generalize hRR : val (0, n) = R at *
          have HRR := hid hRR
          rw [show sv R = Value.string ⟨R.toArray⟩ from rfl] at jR
          have u0 := BTB.out.c0
          have u1 := BTB.out.c1
          have u2 := BTB.out.c2
          have k1 := jR wB (Below.refl _ _)
          rw [hLl.out]
          clear hla hO hB RG hRR hBT AIA BHA BA
          go_wp2_with (go_at_call 10; fail)
          with_reducible refine k1.mono ?_
          rintro r w6 ⟨rfl, _, b6⟩
          have C6 := hid b6
          have BT6 := hid (BTB.out.below b6)
          have v0 := BT6.out.c0
          have v1 := BT6.out.c1
          have v2 := BT6.out.c2
          have k2 := jE w6 (HZ.out.below (BB.out.trans (b6.mono BB.out.size)) hT).t (AIB.out.below b6 (Nat.le_refl _)) (BHB.out.below b6 (Nat.le_refl _)) (LVB.out.below b6 (Nat.le_refl _))
          clear k1 b6 u0 u1 u2 jE
          go_wp2_with (go_at_call 11; fail)
          with_reducible refine k2.mono ?_
          rintro r w7 ⟨G, gs, rfl, rv, hgs, ls, _, b7⟩
          have C7 := hid (C6.out.trans (b7.mono C6.out.size))
          have BT7 := hid (BT6.out.below b7)
          have RV7 := hid rv
          have LS7 := hid ls
          have hpl : (paths is n val).length = is.length := by simp [paths]
          rw [hpl] at hgs ⊢
          have HGS := hid hgs
          have n1' : ((is.length : Int) != (is.length : Int)) = false := by simp
          have hR32 : (({ data := R.toArray } : ByteArray).size : Int) = 32 := by
            show ((R.toArray.size : Nat) : Int) = 32
            simp [R32]
          clear k2 b7 v0 v1 v2 rv ls hgs BT6 C6
          by_cases ho : other = R
          · obtain rfl := ho.symm
            have e1 := str_eq12 R
            have hyy : ((ByteArray.mk R.toArray).toList == (ByteArray.mk R.toArray).toList) = true := by simp
            have hbb : (R == R) = true := by simp
            go_wp2
            go_loopw [22, 23, 24, 25] (fun i _ _ _ w' => ∃ j3 : Nat, j3 ≤ is.length ∧ i = .int .i64 (j3 : Int) ∧ Hid (Below w7.heap.size w7 w')) (fun i _ _ _ _ => is.length - (intOf i).toNat)
            case atStart => exact ⟨0, by omega, rfl, Below.refl _ _⟩
            case round =>
              obtain ⟨j3, hj3, rfl, hB⟩ := hrel
              by_cases hjm : j3 < is.length
              · have e0 : (j3 : Int) < (is.length : Int) := by omega
                have l1 : (0 : Int) ≤ (j3 : Int) := by omega
                have CB := hid (C7.out.trans (hB.out.mono C7.out.size))
                have hjx : j3 < (ix is).length := by rw [hil]; exact hjm
                obtain ⟨xi, rfl, hxb, hci⟩ := (AIB.out.below CB.out (Nat.le_refl _)) j3 (ix is)[j3] (List.getElem?_eq_getElem hjx)
                rw [show (ix is)[j3] = ((is[j3] : Nat) : Int) by simp [ix]] at hci
                have hmem := List.getElem_mem hjm
                obtain ⟨xl, rfl, hxl, hcl⟩ := (LVB.out.below CB.out (Nat.le_refl _)) j3 (val (is[j3], is[j3] + 1)) (HRG.out.lv j3 is[j3] (List.getElem?_eq_getElem hjm))
                have hro := HRG.out.up is[j3] hmem
                rw [HRR.out] at hro
                have hpj : (paths is n val)[j3]? = some ((Tree.pthF n 0 n is[j3]).map val) := by unfold paths; rw [List.getElem?_map, List.getElem?_eq_getElem hjm]; rfl
                have hgj : j3 < gs.length := by rw [HGS.out]; exact hjm
                have rP := LS7.out.row j3 gs[j3] _ (List.getElem?_eq_getElem hgj) hpj
                have rvj := RV7.out.cell (j := j3) (v := lst gs[j3] ((Tree.pthF n 0 n is[j3]).map val)) (by rw [List.getElem?_zipWith, List.getElem?_eq_getElem hgj, hpj])
                have hgl := (LS7.out.ge gs[j3] (List.getElem_mem hgj)).2
                have hP1 : ((Tree.pthF n 0 n is[j3]).map val).length ≤ 2000000 := by rw [List.length_map]; exact pthF_short12 n 0 n is[j3] (Nat.le_refl _) hnk (by omega) (by have := HRG.out.lt is[j3] hmem; omega)
                generalize (Tree.pthF n 0 n is[j3]).map val = P at *
                generalize val (is[j3], is[j3] + 1) = y at *
                generalize gs[j3] = g at *
                generalize is[j3] = i at *
                have mkP := fun w' (hb : Below wr.heap.size wr w') => (rP.below (hB.out.trans (hb.mono hB.out.size)) hgl).at
                have mkT := fun w' (hb : Below wr.heap.size wr w') => (HZ.out.below (BB.out.trans ((CB.out.trans (hb.mono CB.out.size)).mono BB.out.size)) hT).t
                have kA := fun w' (hb : Below wr.heap.size wr w') => RootOf_any (n : Int) (i : Int) y P (some ⟨g, 0, none⟩) P.length w' (by omega) (mkP w' hb) (mkT w' hb)
                have kB := fun w' (hb : Below wr.heap.size wr w') => Inclusion_any (n : Int) (i : Int) y P R (some ⟨g, 0, none⟩) P.length w' (by omega) (mkP w' hb) (mkT w' hb)
                have kC := fun w' (hb : Below wr.heap.size wr w') => Inclusion_any (n : Int) (i : Int) y P R (some ⟨g, 0, none⟩) P.length w' (by omega) (mkP w' hb) (mkT w' hb)
                have hB1 : incOf4 (n : Int) (i : Int) y P R = 0 := by rw [incOf4, hro, if_pos rfl, if_pos R32, if_pos rfl]
                have hC1 : incOf4 (n : Int) (i : Int) y P R = 0 := by rw [incOf4, hro, if_pos rfl]; rw [if_pos R32, if_pos rfl]
                rw [hro] at kA
                rw [hB1] at kB
                rw [hC1] at kC
                obtain ⟨pl, hpl2⟩ : ∃ pl, P.length = pl := ⟨_, rfl⟩
                rw [hpl2] at kA kB kC
                unfold lst at rvj
                rw [hpl2] at rvj
                simp only [sv] at kA kB kC hcl
                have mkS : ∀ w', Below wr.heap.size wr w' → w'.cell? (xi.add j3) = some (.int .i64 (i : Int)) ∧ w'.cell? (xl.add j3) = some (.string ⟨y.toArray⟩) ∧ w'.cell? ⟨G, j3, none⟩ = some (.slice (some ⟨g, 0, none⟩) pl pl) := fun w' hb => ⟨(hb.cell (by rw [addr_block]; exact hxb)).trans hci, (hb.cell (by rw [addr_block]; exact hxl)).trans hcl, ((hB.out.trans (hb.mono hB.out.size)).cell (p := ⟨G, j3, none⟩) RV7.out.lt).trans rvj⟩
                have x0 := mkS wr.drew (Below.refl _ wr).drew
                have k8 := kA wr.drew (Below.refl _ wr).drew
                clear hro hpj rP rvj mkP mkT hB1 hC1 hP1 hpl2 hmem
                go_wp2
                go_region_held3 (fun w' => w'.cell? (xi.add j3) = some (.int .i64 (i : Int)) ∧ w'.cell? (xl.add j3) = some (.string ⟨y.toArray⟩) ∧ w'.cell? ⟨G, j3, none⟩ = some (.slice (some ⟨g, 0, none⟩) pl pl)) (first | exact x1 | exact x0) (first | (go_at_call 12; (with_reducible refine k8.mono ?_); rintro r w8 ⟨rfl, b8'⟩; have b8 := drewBelow8 b8'; have x1 := mkS w8 b8))
                have x2 := mkS w8.drew (b8.trans ((Below.refl _ w8).drew.mono b8.size))
                have k9 := kB w8.drew (b8.trans ((Below.refl _ w8).drew.mono b8.size))
                clear x0 x1 k8 b8'
                go_wp2
                go_region_held3 (fun w' => w'.cell? (xi.add j3) = some (.int .i64 (i : Int)) ∧ w'.cell? (xl.add j3) = some (.string ⟨y.toArray⟩) ∧ w'.cell? ⟨G, j3, none⟩ = some (.slice (some ⟨g, 0, none⟩) pl pl)) (first | exact x3 | exact x2) (first | (go_at_call 13; (with_reducible refine k9.mono ?_); rintro r w9 ⟨rfl, b9'⟩; have b9 := b8.trans ((drewBelow8 b9').mono b8.size); have x3 := mkS w9 b9))
                have x4 := mkS w9.drew (b9.trans ((Below.refl _ w9).drew.mono b9.size))
                have k10 := kC w9.drew (b9.trans ((Below.refl _ w9).drew.mono b9.size))
                clear x2 x3 k9 b9'
                go_wp2
                go_region_held3 (fun w' => w'.cell? (xi.add j3) = some (.int .i64 (i : Int)) ∧ w'.cell? (xl.add j3) = some (.string ⟨y.toArray⟩) ∧ w'.cell? ⟨G, j3, none⟩ = some (.slice (some ⟨g, 0, none⟩) pl pl)) (first | exact x5 | exact x4) (first | (go_at_call 13; (with_reducible refine k10.mono ?_); rintro r w10 ⟨rfl, b10'⟩; have b10 := b9.trans ((drewBelow8 b10').mono b9.size); have x5 := mkS w10 b10))
                have BN := hid (hB.out.trans (b10.mono hB.out.size))
                clear x4 x5 k10 b10' mkS kA kB kC b8 b9 b10
                go_wp2
                exact ⟨⟨j3 + 1, by omega, by go_num, BN⟩, by simp [intOf]; omega⟩
              · obtain rfl : j3 = is.length := by omega
                have e0 : ¬ (is.length : Int) < (is.length : Int) := by omega
                have CB := hid (C7.out.trans (hB.out.mono C7.out.size))
                have BT8 := hid (BT7.out.below hB.out)
                have u0 := BT8.out.c0
                have u1 := BT8.out.c1
                have u2 := BT8.out.c2
                have k8 := jc R 0 (by simp) wr CB.out
                have k9 := fun w' (hb : Below wB.heap.size wB w') => jc R 0 (by simp) w' hb
                simp only [sv] at k8 k9
                go_wp2_with (go_at_call 14; fail)
                with_reducible refine k8.mono ?_
                rintro r w8 ⟨rfl, b8⟩
                have CB8 := hid (CB.out.trans (b8.mono CB.out.size))
                have BT9 := hid (BT8.out.below b8)
                have v0 := BT9.out.c0
                have v1 := BT9.out.c1
                have v2 := BT9.out.c2
                have k10 := k9 w8 CB8.out
                clear u0 u1 u2 k8 k9 b8
                go_wp2_with (go_at_call 14; fail)
                with_reducible refine k10.mono ?_
                rintro r w9 ⟨rfl, b9⟩
                have BE := hid (BB.out.trans ((CB8.out.trans (b9.mono CB8.out.size)).mono BB.out.size))
                clear v0 v1 v2 k10 b9
                go_wp2
                go_ret
                exact ⟨rfl, BE.out⟩
          · skip
            have e1 := str_eq12 R
            have hyy : ((ByteArray.mk R.toArray).toList == (ByteArray.mk R.toArray).toList) = true := by simp
            have e2 : (other == R) = false := by simpa using ho
            have e3 : (R == other) = false := by simpa using fun h => ho h.symm
            have e4 := str_ne12 ho
            obtain ⟨d, hd, hd0⟩ : ∃ d : Int, (if other.length = 32 then 44 else 42) = d ∧ d ≠ 0 := ⟨_, rfl, by split <;> omega⟩
            have e5 : (d == 0) = false := by simpa using hd0
            have e6 : (d != 0) = true := by simpa using hd0
            go_wp2
            go_loopw [22, 23, 24, 25] (fun i _ _ _ w' => ∃ j3 : Nat, j3 ≤ is.length ∧ i = .int .i64 (j3 : Int) ∧ Hid (Below w7.heap.size w7 w')) (fun i _ _ _ _ => is.length - (intOf i).toNat)
            case atStart => exact ⟨0, by omega, rfl, Below.refl _ _⟩
            case round =>
              obtain ⟨j3, hj3, rfl, hB⟩ := hrel
              by_cases hjm : j3 < is.length
              · have e0 : (j3 : Int) < (is.length : Int) := by omega
                have l1 : (0 : Int) ≤ (j3 : Int) := by omega
                have CB := hid (C7.out.trans (hB.out.mono C7.out.size))
                have hjx : j3 < (ix is).length := by rw [hil]; exact hjm
                obtain ⟨xi, rfl, hxb, hci⟩ := (AIB.out.below CB.out (Nat.le_refl _)) j3 (ix is)[j3] (List.getElem?_eq_getElem hjx)
                rw [show (ix is)[j3] = ((is[j3] : Nat) : Int) by simp [ix]] at hci
                have hmem := List.getElem_mem hjm
                obtain ⟨xl, rfl, hxl, hcl⟩ := (LVB.out.below CB.out (Nat.le_refl _)) j3 (val (is[j3], is[j3] + 1)) (HRG.out.lv j3 is[j3] (List.getElem?_eq_getElem hjm))
                have hro := HRG.out.up is[j3] hmem
                rw [HRR.out] at hro
                have hpj : (paths is n val)[j3]? = some ((Tree.pthF n 0 n is[j3]).map val) := by unfold paths; rw [List.getElem?_map, List.getElem?_eq_getElem hjm]; rfl
                have hgj : j3 < gs.length := by rw [HGS.out]; exact hjm
                have rP := LS7.out.row j3 gs[j3] _ (List.getElem?_eq_getElem hgj) hpj
                have rvj := RV7.out.cell (j := j3) (v := lst gs[j3] ((Tree.pthF n 0 n is[j3]).map val)) (by rw [List.getElem?_zipWith, List.getElem?_eq_getElem hgj, hpj])
                have hgl := (LS7.out.ge gs[j3] (List.getElem_mem hgj)).2
                have hP1 : ((Tree.pthF n 0 n is[j3]).map val).length ≤ 2000000 := by rw [List.length_map]; exact pthF_short12 n 0 n is[j3] (Nat.le_refl _) hnk (by omega) (by have := HRG.out.lt is[j3] hmem; omega)
                generalize (Tree.pthF n 0 n is[j3]).map val = P at *
                generalize val (is[j3], is[j3] + 1) = y at *
                generalize gs[j3] = g at *
                generalize is[j3] = i at *
                have mkP := fun w' (hb : Below wr.heap.size wr w') => (rP.below (hB.out.trans (hb.mono hB.out.size)) hgl).at
                have mkT := fun w' (hb : Below wr.heap.size wr w') => (HZ.out.below (BB.out.trans ((CB.out.trans (hb.mono CB.out.size)).mono BB.out.size)) hT).t
                have kA := fun w' (hb : Below wr.heap.size wr w') => RootOf_any (n : Int) (i : Int) y P (some ⟨g, 0, none⟩) P.length w' (by omega) (mkP w' hb) (mkT w' hb)
                have kB := fun w' (hb : Below wr.heap.size wr w') => Inclusion_any (n : Int) (i : Int) y P R (some ⟨g, 0, none⟩) P.length w' (by omega) (mkP w' hb) (mkT w' hb)
                have kC := fun w' (hb : Below wr.heap.size wr w') => Inclusion_any (n : Int) (i : Int) y P other (some ⟨g, 0, none⟩) P.length w' (by omega) (mkP w' hb) (mkT w' hb)
                have hB1 : incOf4 (n : Int) (i : Int) y P R = 0 := by rw [incOf4, hro, if_pos rfl, if_pos R32, if_pos rfl]
                have hC1 : incOf4 (n : Int) (i : Int) y P other = d := by
                  rw [incOf4, hro, if_pos rfl, ← hd]
                  split
                  · rw [if_neg (fun h => ho h.symm)]
                  · rfl
                rw [hro] at kA
                rw [hB1] at kB
                rw [hC1] at kC
                obtain ⟨pl, hpl2⟩ : ∃ pl, P.length = pl := ⟨_, rfl⟩
                rw [hpl2] at kA kB kC
                unfold lst at rvj
                rw [hpl2] at rvj
                simp only [sv] at kA kB kC hcl
                have mkS : ∀ w', Below wr.heap.size wr w' → w'.cell? (xi.add j3) = some (.int .i64 (i : Int)) ∧ w'.cell? (xl.add j3) = some (.string ⟨y.toArray⟩) ∧ w'.cell? ⟨G, j3, none⟩ = some (.slice (some ⟨g, 0, none⟩) pl pl) := fun w' hb => ⟨(hb.cell (by rw [addr_block]; exact hxb)).trans hci, (hb.cell (by rw [addr_block]; exact hxl)).trans hcl, ((hB.out.trans (hb.mono hB.out.size)).cell (p := ⟨G, j3, none⟩) RV7.out.lt).trans rvj⟩
                have x0 := mkS wr.drew (Below.refl _ wr).drew
                have k8 := kA wr.drew (Below.refl _ wr).drew
                clear hro hpj rP rvj mkP mkT hB1 hC1 hP1 hpl2 hmem
                go_wp2
                go_region_held3 (fun w' => w'.cell? (xi.add j3) = some (.int .i64 (i : Int)) ∧ w'.cell? (xl.add j3) = some (.string ⟨y.toArray⟩) ∧ w'.cell? ⟨G, j3, none⟩ = some (.slice (some ⟨g, 0, none⟩) pl pl)) (first | exact x1 | exact x0) (first | (go_at_call 12; (with_reducible refine k8.mono ?_); rintro r w8 ⟨rfl, b8'⟩; have b8 := drewBelow8 b8'; have x1 := mkS w8 b8))
                have x2 := mkS w8.drew (b8.trans ((Below.refl _ w8).drew.mono b8.size))
                have k9 := kB w8.drew (b8.trans ((Below.refl _ w8).drew.mono b8.size))
                clear x0 x1 k8 b8'
                go_wp2
                go_region_held3 (fun w' => w'.cell? (xi.add j3) = some (.int .i64 (i : Int)) ∧ w'.cell? (xl.add j3) = some (.string ⟨y.toArray⟩) ∧ w'.cell? ⟨G, j3, none⟩ = some (.slice (some ⟨g, 0, none⟩) pl pl)) (first | exact x3 | exact x2) (first | (go_at_call 13; (with_reducible refine k9.mono ?_); rintro r w9 ⟨rfl, b9'⟩; have b9 := b8.trans ((drewBelow8 b9').mono b8.size); have x3 := mkS w9 b9))
                have x4 := mkS w9.drew (b9.trans ((Below.refl _ w9).drew.mono b9.size))
                have k10 := kC w9.drew (b9.trans ((Below.refl _ w9).drew.mono b9.size))
                clear x2 x3 k9 b9'
                go_wp2
                go_region_held3 (fun w' => w'.cell? (xi.add j3) = some (.int .i64 (i : Int)) ∧ w'.cell? (xl.add j3) = some (.string ⟨y.toArray⟩) ∧ w'.cell? ⟨G, j3, none⟩ = some (.slice (some ⟨g, 0, none⟩) pl pl)) (first | exact x5 | exact x4) (first | (go_at_call 13; (with_reducible refine k10.mono ?_); rintro r w10 ⟨rfl, b10'⟩; have b10 := b9.trans ((drewBelow8 b10').mono b9.size); have x5 := mkS w10 b10))
                have BN := hid (hB.out.trans (b10.mono hB.out.size))
                clear x4 x5 k10 b10' mkS kA kB kC b8 b9 b10
                go_wp2
                exact ⟨⟨j3 + 1, by omega, by go_num, BN⟩, by simp [intOf]; omega⟩
              · obtain rfl : j3 = is.length := by omega
                have e0 : ¬ (is.length : Int) < (is.length : Int) := by omega
                have CB := hid (C7.out.trans (hB.out.mono C7.out.size))
                have BT8 := hid (BT7.out.below hB.out)
                have u0 := BT8.out.c0
                have u1 := BT8.out.c1
                have u2 := BT8.out.c2
                have k8 := jc other 123 (by simp [show ¬ R = other from fun h => ho h.symm]) wr CB.out
                have k9 := fun w' (hb : Below wB.heap.size wB w') => jc R 0 (by simp) w' hb
                simp only [sv] at k8 k9
                go_wp2_with (go_at_call 14; fail)
                with_reducible refine k8.mono ?_
                rintro r w8 ⟨rfl, b8⟩
                have CB8 := hid (CB.out.trans (b8.mono CB.out.size))
                have BT9 := hid (BT8.out.below b8)
                have v0 := BT9.out.c0
                have v1 := BT9.out.c1
                have v2 := BT9.out.c2
                have k10 := k9 w8 CB8.out
                clear u0 u1 u2 k8 k9 b8
                go_wp2_with (go_at_call 14; fail)
                with_reducible refine k10.mono ?_
                rintro r w9 ⟨rfl, b9⟩
                have BE := hid (BB.out.trans ((CB8.out.trans (b9.mono CB8.out.size)).mono BB.out.size))
                clear v0 v1 v2 k10 b9
                go_wp2
                go_ret
                exact ⟨rfl, BE.out⟩
end Bat
end Go.Proofs.YtmpaliocfikifaaDoor
