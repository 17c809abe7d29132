import Derived.Test.YthoekndjeclimaaGreatDoorCEL1
import Derived.Test.YthoekndjeclimaaGreatDoorCO16
import Derived.Test.YthoekndjeclimaaGreatDoorCO28
import Derived.Test.YthoekndjeclimaaGreatDoorCO47
namespace Go.Proofs.YthoekndjeclimaaGreatDoor
open Go.RowKit
def l3 : List (List UInt8) := [hh6 1, hh6 2, hh6 3]
theorem l3_ok : Okl l3 := ⟨by
  intro x hx
  simp only [l3, List.mem_cons, List.not_mem_nil, or_false] at hx
  rcases hx with rfl | rfl | rfl <;> rfl, by decide⟩
theorem spA3 : Tree.sp 3 = 2 := by decide
theorem spA2 : Tree.sp 2 = 1 := by decide
theorem D31 : Tree.D 3 1 = [true, false] := by
  rw [Tree.D_left (by decide) (by decide), spA3, Tree.D_right (by decide) (by decide), spA2, Tree.D_one _ (by decide)]; rfl
theorem PD23 : Tree.PD 2 3 = [false] := by
  rw [Tree.PD_left (by decide) (by decide) (by decide), spA3, Tree.PD_same]; rfl
theorem p3 : Tree.path 1 l3 = [hh6 1, hh6 3] := by decide +kernel
theorem q3 : Tree.proof 2 l3 true = [hh6 3] := by decide +kernel
theorem r3 : Tree.root l3 = Tree.nd (Tree.nd (hh6 1) (hh6 2)) (hh6 3) := by decide +kernel
theorem r2 : Tree.root (l3.take 2) = Tree.nd (hh6 1) (hh6 2) := by decide +kernel
theorem ne3 : ¬ Tree.nd (Tree.nd (hh6 1) (hh6 3)) (hh6 3) = Tree.nd (Tree.nd (hh6 1) (hh6 2)) (hh6 3) := by decide +kernel
theorem hh32 (c : UInt8) : (hh6 c).length = 32 := by simp [hh6]
theorem len31 : lenOf 3 1 = (2, 0) := by
  unfold lenOf
  rw [if_neg (by omega), if_neg (by omega)]
  show ((((Tree.D 3 1).length : Nat) : Int), (0 : Int)) = _
  rw [D31]; rfl
theorem chk3 (c : UInt8) : chk (hh6 c) [hh6 1, hh6 3] 2 = 0 := by
  unfold chk
  rw [if_pos ⟨hh32 c, by decide⟩, if_pos (by decide)]
theorem ro3 (c : UInt8) : rootOf4 3 1 (hh6 c) [hh6 1, hh6 3] = (Tree.nd (Tree.nd (hh6 1) (hh6 c)) (hh6 3), 0) := by
  unfold rootOf4
  rw [len31]
  show (if (0 : Int) = 0 then (if chk (hh6 c) [hh6 1, hh6 3] 2 = 0 then (Tree.upd (hh6 c) (Tree.D 3 1) [hh6 1, hh6 3], (0 : Int)) else _) else _) = _
  rw [if_pos rfl, if_pos (chk3 c), D31]; rfl
theorem nd32 (c d : UInt8) : (Tree.nd (Tree.nd (hh6 c) (hh6 d)) (hh6 3)).length = 32 := Tree.nd_length (Tree.nd_length (hh32 c) (hh32 d)) (hh32 3)
theorem aw1 : incOf4 3 1 (hh6 2) (Tree.path 1 l3) (Tree.root l3) = 0 := by
  rw [p3, r3, incOf4, ro3, if_pos rfl, if_pos (nd32 1 2), if_pos rfl]
theorem aw2 : ¬ incOf4 3 1 (hh6 3) (Tree.path 1 l3) (Tree.root l3) = 0 := by
  rw [p3, r3, incOf4, ro3, if_pos rfl, if_pos (nd32 1 2), if_neg ne3]
  decide
theorem pl23 : Tree.pl 2 3 true = 1 := by
  unfold Tree.pl Tree.fl
  rw [PD23]; rfl
theorem prf23 : prfLen 2 3 = (1, 0) := by
  unfold prfLen
  simp
  rw [pl23]
  rfl
theorem aw3 : conOf4 2 3 (Tree.root (l3.take 2)) (Tree.root l3) (Tree.proof 2 l3 true) = 0 := by
  have hb := (Tree.proof_PD 3 2 l3 true (by decide) (by decide) (by decide)).2 (Tree.root (l3.take 2)) (fun _ => rfl)
  have h2 : (Tree.root (l3.take 2)).length = 32 := Tree.root_len (l3_ok.1.take 2)
  have h3 : (Tree.root l3).length = 32 := Tree.root_len l3_ok.1
  have hro : rootsOf4 2 3 (Tree.root (l3.take 2)) (Tree.proof 2 l3 true) = ((Tree.root (l3.take 2), Tree.root l3), 0) := by
    unfold rootsOf4
    rw [prf23]
    show (if (0 : Int) = 0 then (if chk (Tree.root (l3.take 2)) (Tree.proof 2 l3 true) 1 = 0 then (Tree.bth 2 3 true (Tree.root (l3.take 2)) (Tree.proof 2 l3 true), (0 : Int)) else _) else _) = _
    rw [if_pos rfl, if_pos (by
      unfold chk
      rw [if_pos ⟨h2, by rw [q3]; decide⟩, if_pos (by rw [q3]; rfl)])]
    exact congrArg (fun x => (x, (0 : Int))) hb
  rw [conOf4, hro, if_pos rfl, if_pos h3, if_pos rfl]
theorem aI : incO 3 1 (Tree.root l3) (hh6 2) (Tree.path 1 l3) (hh6 2) (Tree.path 1 l3) = (([], []), 60) := by unfold incO; rw [if_pos ⟨aw1, aw1⟩, if_pos ⟨rfl, rfl⟩]
theorem aJ : incO 3 1 (Tree.root l3) (hh6 2) (Tree.path 1 l3) (hh6 3) (Tree.path 1 l3) = (([], []), 61) := by unfold incO; rw [if_neg (fun h => aw2 h.2)]
theorem aC : conO l3 2 (Tree.root (l3.take 2)) (Tree.proof 2 l3 true) = (([], []), 60) := by
  unfold conO
  have h : conOf4 2 (l3.length : Int) (Tree.root (l3.take 2)) (Tree.root l3) (Tree.proof 2 l3 true) = 0 := aw3
  rw [if_pos l3_ok.wrg, if_pos h, if_pos (show Tree.root (l3.take (Int.toNat 2)) = Tree.root (l3.take 2) from rfl)]
theorem aL : lvsO l3 l3 = (([], []), 60) := by unfold lvsO; rw [if_pos ⟨rfl, l3_ok.wrg, l3_ok.wrg⟩, if_pos (.inl rfl)]
theorem aP : pathOut l3 1 = (Tree.path 1 l3, 0) := by unfold pathOut; rw [if_pos l3_ok.wrg, if_pos (by decide)]; rfl
theorem aQ : proofOut l3 2 = (Tree.proof 2 l3 true, 0) := by unfold proofOut; rw [if_pos l3_ok.wrg, if_pos (by decide)]; rfl
theorem Own.lv {w : World} {b : Nat} {v : Value} {L : List (List UInt8)} (h : Own w b v (svs L)) : Lv w v L := by
  obtain ⟨a, cap, h1, h2, h3, h4⟩ := h.at
  exact ⟨a, cap, h1, h3, h4, h2⟩
set_option maxRecDepth 100000 in
set_option maxHeartbeats 4000000 in
theorem awake_any (w : World) (T : Tabs w) :
    Calls Tryz.prog 4 #[] w fun e w' => e = .returned (.bool true) ∧ Below w.heap.size w w' := by
  have HT := hid T
  clear T
  obtain ⟨x1, hv1⟩ : ∃ x, Hid (sv (hh6 1) = .string ⟨x⟩) := ⟨_, rfl⟩
  obtain ⟨x2, hv2⟩ : ∃ x, Hid (sv (hh6 2) = .string ⟨x⟩) := ⟨_, rfl⟩
  obtain ⟨x3, hv3⟩ : ∃ x, Hid (sv (hh6 3) = .string ⟨x⟩) := ⟨_, rfl⟩
  have Bw := hid (Below.refl w.heap.size w)
  go_enter Tryz.func4, Tryz.ntmps4
  go_wp2_with (go_at_call 15; fail)
  refine (hash_any 1 w).mono ?_
  rintro e w1 ⟨rfl, bw1⟩
  rw [hv1.out]
  have Bw1 := hid (Bw.out.trans (bw1.mono Bw.out.size))
  clear bw1
  go_wp2_with (go_at_call 15; fail)
  refine (hash_any 2 w1).mono ?_
  rintro e w2 ⟨rfl, bw2⟩
  rw [hv2.out]
  have Bw2 := hid (Bw1.out.trans (bw2.mono Bw1.out.size))
  clear bw2
  go_wp2_with (go_at_call 15; fail)
  refine (hash_any 3 w2).mono ?_
  rintro e w3 ⟨rfl, bw3⟩
  rw [hv3.out]
  have Bw3 := hid (Bw2.out.trans (bw3.mono Bw2.out.size))
  clear bw3
  have al := (Below.refl w3.heap.size w3).alloc (Nat.le_refl _) (.cells #[Value.string ⟨x1⟩, .string ⟨x2⟩, .string ⟨x3⟩] 9)
  have ro := heap_alloc_new w3 (.cells #[Value.string ⟨x1⟩, .string ⟨x2⟩, .string ⟨x3⟩] 9)
  obtain ⟨w4, hw4⟩ : ∃ w4, w3.alloc (.cells #[Value.string ⟨x1⟩, .string ⟨x2⟩, .string ⟨x3⟩] 9) = w4 := ⟨_, rfl⟩
  rw [hw4] at al ro
  have LV : Hid (Lv w4 (.slice (some ⟨w3.heap.size, 0, none⟩) 3 3) l3) := by
    refine ⟨some ⟨w3.heap.size, 0, none⟩, 3, rfl, Nat.le_refl _, by omega, fun j p hp => ⟨_, rfl, lt_of_heap ro, ?_⟩⟩
    rw [Addr.add_mid, Nat.zero_add, cell_of_row _ _ _ _ _ _ ro]
    match j, hp with
    | 0, hp => obtain rfl := Option.some.inj hp; exact congrArg some hv1.out.symm
    | 1, hp => obtain rfl := Option.some.inj hp; exact congrArg some hv2.out.symm
    | 2, hp => obtain rfl := Option.some.inj hp; exact congrArg some hv3.out.symm
  have Bw4 := hid (Bw3.out.trans (al.mono Bw3.out.size))
  clear al ro
  obtain ⟨r, hr⟩ : ∃ r, Hid (Tree.root l3 = r) := ⟨_, rfl⟩
  obtain ⟨o, ho⟩ : ∃ o, Hid (Tree.root (l3.take 2) = o) := ⟨_, rfl⟩
  obtain ⟨P, hP⟩ : ∃ P, Hid (Tree.path 1 l3 = P) := ⟨_, rfl⟩
  obtain ⟨Q, hQ⟩ : ∃ Q, Hid (Tree.proof 2 l3 true = Q) := ⟨_, rfl⟩
  obtain ⟨G, hG⟩ : ∃ G, w3.heap.size = G := ⟨_, rfl⟩
  rw [hG] at LV
  have AT := fun (w' : World) (h : Lv w' (.slice (some ⟨G, 0, none⟩) 3 3) l3) => show At w' (some ⟨G, 0, none⟩) l3 from by
    obtain ⟨a, c, h1, _, _, h4⟩ := h
    injection h1 with h1
    rw [h1]; exact h4
  have i1 := Root_any l3 (some ⟨G, 0, none⟩) 3 w4 (by decide) (by decide) (AT _ LV.out) (HT.out.below Bw4.out HT.out.lt)
  rw [l3_ok.out, hr.out, svS] at i1
  go_wp2_with (go_at_call 16; fail)
  try rw [hG]
  refine i1.mono ?_
  rintro e w5 ⟨rfl, b5⟩
  clear i1
  replace LV := hid (LV.out.below b5)
  have Bw5 := hid (Bw4.out.trans (b5.mono Bw4.out.size))
  clear b5
  have i1 := Path_any l3 1 (some ⟨G, 0, none⟩) 3 w5 (by decide) (by decide) (AT _ LV.out) (HT.out.below Bw5.out HT.out.lt)
  rw [aP, hP.out] at i1
  go_wp2_with (go_at_call 17; fail)
  refine i1.mono ?_
  rintro e w6 ⟨vp, rfl, OP, b6⟩
  clear i1
  obtain ⟨ap, np, cp, rfl⟩ := own_sl OP
  have PV := hid OP.lv
  replace LV := hid (LV.out.below b6)
  have Bw6 := hid (Bw5.out.trans (b6.mono Bw5.out.size))
  clear b6 OP
  have i1 := Proof_any l3 2 (some ⟨G, 0, none⟩) 3 w6 (by decide) (by decide) (AT _ LV.out) (HT.out.below Bw6.out HT.out.lt)
  rw [aQ, hQ.out] at i1
  go_wp2_with (go_at_call 18; fail)
  refine i1.mono ?_
  rintro e w7 ⟨vq, rfl, OQ, b7⟩
  clear i1
  obtain ⟨aq, nq, cq, rfl⟩ := own_sl OQ
  have QV := hid OQ.lv
  replace LV := hid (LV.out.below b7)
  replace PV := hid (PV.out.below b7)
  have Bw7 := hid (Bw6.out.trans (b7.mono Bw6.out.size))
  clear b7 OQ
  have i1 := Root_any (l3.take 2) (some ⟨G, 0, none⟩) 3 w7 (by decide) (by decide) ((AT _ LV.out).take 2) (HT.out.below Bw7.out HT.out.lt)
  rw [(l3_ok.take 2).out, ho.out, svS] at i1
  go_wp2_with (go_at_call 16; fail)
  refine i1.mono ?_
  rintro e w8 ⟨rfl, b8⟩
  clear i1
  replace LV := hid (LV.out.below b8)
  replace PV := hid (PV.out.below b8)
  replace QV := hid (QV.out.below b8)
  have Bw8 := hid (Bw7.out.trans (b8.mono Bw7.out.size))
  clear b8
  go_wp2_with (go_at_call 15; fail)
  refine (hash_any 2 w8).mono ?_
  rintro e w9 ⟨rfl, bw9⟩
  rw [hv2.out]
  replace LV := hid (LV.out.below bw9)
  replace PV := hid (PV.out.below bw9)
  replace QV := hid (QV.out.below bw9)
  have Bw9 := hid (Bw8.out.trans (bw9.mono Bw8.out.size))
  clear bw9
  go_wp2_with (go_at_call 15; fail)
  refine (hash_any 2 w9).mono ?_
  rintro e w10 ⟨rfl, bw10⟩
  rw [hv2.out]
  replace LV := hid (LV.out.below bw10)
  replace PV := hid (PV.out.below bw10)
  replace QV := hid (QV.out.below bw10)
  have Bw10 := hid (Bw9.out.trans (bw10.mono Bw9.out.size))
  clear bw10
  have i1 := Incl_any 3 1 r (hh6 2) (hh6 2) P P (.slice ap np cp) (.slice ap np cp) w10 PV.out PV.out (HT.out.below Bw10.out HT.out.lt)
  have e1 := aI
  rw [hr.out, hP.out] at e1
  rw [e1, svS r, hv2.out, show prP [] [] = .agg #[.string ⟨#[]⟩, .string ⟨#[]⟩] from rfl] at i1
  clear e1
  go_wp2_with (go_at_call 6; fail)
  refine i1.mono ?_
  rintro e w11 ⟨rfl, b11⟩
  clear i1
  replace LV := hid (LV.out.below b11)
  replace PV := hid (PV.out.below b11)
  replace QV := hid (QV.out.below b11)
  have Bw11 := hid (Bw10.out.trans (b11.mono Bw10.out.size))
  clear b11
  have al := (Below.refl w11.heap.size w11).alloc (Nat.le_refl _) (.cells #[Value.string ⟨#[]⟩, .string ⟨#[]⟩] 26)
  obtain ⟨w12, hw12⟩ : ∃ w12, Hid (w11.alloc (.cells #[Value.string ⟨#[]⟩, .string ⟨#[]⟩] 26) = w12) := ⟨_, rfl⟩
  rw [hw12.out] at al
  replace LV := hid (LV.out.below al)
  replace PV := hid (PV.out.below al)
  replace QV := hid (QV.out.below al)
  have Bw12 := hid (Bw11.out.trans (al.mono Bw11.out.size))
  clear al
  have i1 := Cons_any l3 2 o Q (.slice (some ⟨G, 0, none⟩) 3 3) (.slice aq nq cq) w12 LV.out QV.out (HT.out.below Bw12.out HT.out.lt)
  have e1 := aC
  rw [ho.out, hQ.out] at e1
  rw [e1, svS o, show prP [] [] = .agg #[.string ⟨#[]⟩, .string ⟨#[]⟩] from rfl] at i1
  clear e1
  go_wp2_with (go_at_call 11; fail)
  rw [hw12.out]
  refine i1.mono ?_
  rintro e w13 ⟨rfl, b13⟩
  clear i1
  replace LV := hid (LV.out.below b13)
  replace PV := hid (PV.out.below b13)
  replace QV := hid (QV.out.below b13)
  have Bw13 := hid (Bw12.out.trans (b13.mono Bw12.out.size))
  clear b13
  have al := (Below.refl w13.heap.size w13).alloc (Nat.le_refl _) (.cells #[Value.string ⟨#[]⟩, .string ⟨#[]⟩] 26)
  obtain ⟨w14, hw14⟩ : ∃ w14, Hid (w13.alloc (.cells #[Value.string ⟨#[]⟩, .string ⟨#[]⟩] 26) = w14) := ⟨_, rfl⟩
  rw [hw14.out] at al
  replace LV := hid (LV.out.below al)
  replace PV := hid (PV.out.below al)
  replace QV := hid (QV.out.below al)
  have Bw14 := hid (Bw13.out.trans (al.mono Bw13.out.size))
  clear al
  go_wp2_with (go_at_call 15; fail)
  rw [hw14.out]
  refine (hash_any 2 w14).mono ?_
  rintro e w15 ⟨rfl, bw15⟩
  rw [hv2.out]
  replace LV := hid (LV.out.below bw15)
  replace PV := hid (PV.out.below bw15)
  replace QV := hid (QV.out.below bw15)
  have Bw15 := hid (Bw14.out.trans (bw15.mono Bw14.out.size))
  clear bw15
  go_wp2_with (go_at_call 15; fail)
  refine (hash_any 3 w15).mono ?_
  rintro e w16 ⟨rfl, bw16⟩
  rw [hv3.out]
  replace LV := hid (LV.out.below bw16)
  replace PV := hid (PV.out.below bw16)
  replace QV := hid (QV.out.below bw16)
  have Bw16 := hid (Bw15.out.trans (bw16.mono Bw15.out.size))
  clear bw16
  have i1 := Incl_any 3 1 r (hh6 2) (hh6 3) P P (.slice ap np cp) (.slice ap np cp) w16 PV.out PV.out (HT.out.below Bw16.out HT.out.lt)
  have e1 := aJ
  rw [hr.out, hP.out] at e1
  rw [e1, svS r, hv2.out, hv3.out, show prP [] [] = .agg #[.string ⟨#[]⟩, .string ⟨#[]⟩] from rfl] at i1
  clear e1
  go_wp2_with (go_at_call 6; fail)
  refine i1.mono ?_
  rintro e w17 ⟨rfl, b17⟩
  clear i1
  replace LV := hid (LV.out.below b17)
  replace PV := hid (PV.out.below b17)
  replace QV := hid (QV.out.below b17)
  have Bw17 := hid (Bw16.out.trans (b17.mono Bw16.out.size))
  clear b17
  have al := (Below.refl w17.heap.size w17).alloc (Nat.le_refl _) (.cells #[Value.string ⟨#[]⟩, .string ⟨#[]⟩] 26)
  obtain ⟨w18, hw18⟩ : ∃ w18, Hid (w17.alloc (.cells #[Value.string ⟨#[]⟩, .string ⟨#[]⟩] 26) = w18) := ⟨_, rfl⟩
  rw [hw18.out] at al
  replace LV := hid (LV.out.below al)
  replace PV := hid (PV.out.below al)
  replace QV := hid (QV.out.below al)
  have Bw18 := hid (Bw17.out.trans (al.mono Bw17.out.size))
  clear al
  have i1 := Leaves_any l3 l3 (.slice (some ⟨G, 0, none⟩) 3 3) (.slice (some ⟨G, 0, none⟩) 3 3) w18 LV.out LV.out (HT.out.below Bw18.out HT.out.lt)
  rw [aL, show prP [] [] = .agg #[.string ⟨#[]⟩, .string ⟨#[]⟩] from rfl] at i1
  go_wp2_with (go_at_call 9; fail)
  rw [hw18.out]
  refine i1.mono ?_
  rintro e w19 ⟨rfl, b19⟩
  clear i1
  have al := (Below.refl w19.heap.size w19).alloc (Nat.le_refl _) (.cells #[Value.string ⟨#[]⟩, .string ⟨#[]⟩] 26)
  have Bl := hid (Bw18.out.trans ((b19.trans (al.mono b19.size)).mono Bw18.out.size))
  clear al b19
  go_wp2
  go_ret
  exact ⟨rfl, Bl.out⟩
end Go.Proofs.YthoekndjeclimaaGreatDoor

namespace Go.Proofs.YthoekndjeclimaaGreatDoor
open Go.RowKit
def spare6 : List UInt8 := [115, 112, 97, 114, 101]
theorem spare6_sv : sv spare6 = .string ⟨#[115, 112, 97, 114, 101]⟩ := rfl
set_option maxRecDepth 100000 in
set_option maxHeartbeats 1000000 in
theorem lent6_any (ps : List (List UInt8)) (a : Option Addr) (cap : Nat) (w : World) (hn : ps.length ≤ 8796093021952) (hA : At w a ps) :
    Calls Tryz.prog 5 #[.slice a ps.length cap] w fun e w' => e = .returned (.slice (some ⟨w.heap.size, 0, none⟩) ps.length (ps.length + 2)) ∧ Row w' w.heap.size (ps ++ [spare6, spare6]) ∧ Below w.heap.size w w' := by
  have hmk := make_texts w (ps.length + 2) (by omega)
  have e8 : ((ps.length + 2 : Nat) : Int) = (ps.length : Int) + 2 := by omega
  rw [e8] at hmk
  have R1 : Row (w.alloc (.cells (svs (List.replicate (ps.length + 2) [])).toArray 9)) w.heap.size (List.replicate ps.length [] ++ List.replicate 2 []) := by
    rw [List.replicate_append_replicate]; exact heap_alloc_new w _
  have hb1 := (Below.refl w.heap.size w).alloc (Nat.le_refl _) (.cells (svs (List.replicate (ps.length + 2) [])).toArray 9)
  obtain ⟨w2, hcp, hR2, hb2⟩ := copy_texts _ w.heap.size a cap ps (List.replicate 2 []) (hA.below hb1 (Nat.le_refl _)) R1 (ps.length + 2) (ps.length + 2) (by simp)
  have B2 : Below w.heap.size w w2 := hb1.trans (hb2.below (Nat.le_refl _) (by rw [size_alloc]; omega))
  clear R1 hb2 hb1 hA
  generalize w.alloc (.cells (svs (List.replicate (ps.length + 2) [])).toArray 9) = w1 at *
  obtain ⟨n, hpn⟩ : ∃ n, ps.length = n := ⟨_, rfl⟩
  have hl : (ps ++ List.replicate 2 []).length = n + 2 := by simp [hpn]
  obtain ⟨u0, cp⟩ : ∃ u0, w2.cell? ⟨w.heap.size, n, none⟩ = some u0 := ⟨_, hR2.cell (List.getElem?_eq_getElem (show n < (ps ++ List.replicate 2 []).length by omega))⟩
  have fz := hR2.free (show n < (ps ++ List.replicate 2 []).length by omega)
  have R3 := hR2.set n spare6
  have q1 : (ps ++ List.replicate 2 []).set n spare6 = ps ++ [spare6, []] := by
    rw [List.set_append_right _ _ (by omega), show n - ps.length = 0 by omega]; rfl
  rw [q1] at R3
  have hl3 : (ps ++ [spare6, []]).length = n + 2 := by simp [hpn]
  obtain ⟨u1, cp3⟩ : ∃ u1, (w2.setCell ⟨w.heap.size, n, none⟩ (sv spare6)).cell? ⟨w.heap.size, n + 1, none⟩ = some u1 := ⟨_, R3.cell (List.getElem?_eq_getElem (show n + 1 < (ps ++ [spare6, []]).length by omega))⟩
  have fz3 := R3.free (show n + 1 < (ps ++ [spare6, []]).length by omega)
  have R4 := R3.set (n + 1) spare6
  have q2 : (ps ++ [spare6, []]).set (n + 1) spare6 = ps ++ [spare6, spare6] := by
    rw [List.set_append_right _ _ (by omega), show n + 1 - ps.length = 1 by omega]; rfl
  rw [q2] at R4
  have B4 := (B2.setCell (p := ⟨w.heap.size, n, none⟩) (Nat.le_refl _) (sv spare6)).setCell (p := ⟨w.heap.size, n + 1, none⟩) (Nat.le_refl _) (sv spare6)
  rw [spare6_sv] at R4 B4 cp3 fz3
  have HR := hid R4
  have HB := hid B4
  rw [hpn] at hmk hcp hn ⊢
  have t0 : ((n : Int)).toNat = n := by omega
  have t1 : ((n : Int) + 1).toNat = n + 1 := by omega
  have b0 : (0 : Int) ≤ (n : Int) := by omega
  have b1 : (n : Int) < (n : Int) + 2 := by omega
  have b2 : (n : Int) + 1 < (n : Int) + 2 := by omega
  have b3 : (n : Int) ≤ (n : Int) + 2 := by omega
  have b4 : (0 : Int) ≤ (n : Int) + 1 := by omega
  clear R3 R4 B4 q1 q2 hR2 B2 hl hl3
  go_enter Tryz.func5, Tryz.ntmps5
  go_wp2
  go_ret
  exact ⟨rfl, HR.out, HB.out⟩
set_option maxRecDepth 100000 in
set_option maxHeartbeats 1000000 in
theorem whole6_yes (ps : List (List UInt8)) (H : Nat) (a : Option Addr) (cap : Nat) (w : World) (hn : ps.length ≤ 8796093021952) (hR : Row w H (ps ++ [spare6, spare6])) (hA : At w a ps) :
    Calls Tryz.prog 8 #[.slice (some ⟨H, 0, none⟩) ps.length (ps.length + 2), .slice a ps.length cap] w fun e w' => e = .returned (.bool true) ∧ Below w.heap.size w w' := by
  obtain ⟨n, hpn⟩ : ∃ n, ps.length = n := ⟨_, rfl⟩
  have c1 := hR.cell (j := n) (p := spare6) (by rw [List.getElem?_append_right (by omega), hpn, Nat.sub_self]; rfl)
  have c2 := hR.cell (j := n + 1) (p := spare6) (by rw [List.getElem?_append_right (by omega), hpn, show n + 1 - n = 1 by omega]; rfl)
  rw [spare6_sv] at c1 c2
  have hH : H < w.heap.size := lt_of_heap hR
  have hA1 : At w (some ⟨H, 0, none⟩) ps := by
    have := hR.at.take ps.length
    rwa [List.take_left] at this
  have Ha := hid hA1
  have Hd := hid hA
  have HC := hid (And.intro c1 c2)
  have hN := hid hpn
  rw [hpn] at hn ⊢
  have t0 : ((n : Int)).toNat = n := by omega
  have t1 : ((n : Int) + 1).toNat = n + 1 := by omega
  have b0 : (0 : Int) ≤ (n : Int) := by omega
  have b1 : (n : Int) < (n : Int) + 2 := by omega
  have b2 : (n : Int) + 1 < (n : Int) + 2 := by omega
  have b3 : (n : Int) ≤ (n : Int) + 2 := by omega
  have b4 : (0 : Int) ≤ (n : Int) + 1 := by omega
  clear hA hA1 hR hpn c1 c2
  go_enter Tryz.func8, Tryz.ntmps8
  go_wp2
  go_loopw [5] (fun i w' => ∃ k : Nat, k ≤ n ∧ i = .int .i64 (k : Int) ∧ Hid (Below w.heap.size w w')) (fun i _ => n - (intOf i).toNat)
  case atStart => exact ⟨0, by omega, rfl, hid (Below.refl _ _)⟩
  case round =>
    obtain ⟨k, hk, rfl, hw'⟩ := hrel
    by_cases hlt : k < n
    · have d0 : (k : Int) < (n : Int) := by omega
      have kp : k < ps.length := by rw [hN.out]; exact hlt
      obtain ⟨x, hxe, xb, hx⟩ := Ha.out k ps[k] (List.getElem?_eq_getElem kp)
      obtain rfl := Option.some.inj hxe
      rw [← hw'.out.cell (p := (⟨H, 0, none⟩ : Addr).add k) (by rw [addr_block]; exact hH)] at hx
      obtain ⟨y, rfl, yb, hy⟩ := Hd.out k ps[k] (List.getElem?_eq_getElem kp)
      rw [← hw'.out.cell (p := y.add k) (by rw [addr_block]; exact yb)] at hy
      rw [svS] at hx hy
      rw [Addr.add_mid, Nat.zero_add] at hx
      clear yb xb hxe
      generalize ByteArray.mk (ps[k]).toArray = p at *
      have y1 : (p.toList == p.toList) = true := by simp
      have y2 : (p.toList != p.toList) = false := by simp
      go_wp2
      go_quiet (fail)
      go_wp2
      exact ⟨⟨k + 1, by omega, by go_num, hid (below_drewN hw'.out _)⟩, by simp [intOf]; omega⟩
    · obtain rfl : k = n := by omega
      have d0 : ¬ (k : Int) < (k : Int) := by omega
      have c1 := (hw'.out.cell (p := ⟨H, k, none⟩) hH).trans HC.out.1
      have c2 := (hw'.out.cell (p := ⟨H, k + 1, none⟩) hH).trans HC.out.2
      clear HC
      go_wp2
      go_ret
      exact ⟨rfl, hw'.out⟩
end Go.Proofs.YthoekndjeclimaaGreatDoor
