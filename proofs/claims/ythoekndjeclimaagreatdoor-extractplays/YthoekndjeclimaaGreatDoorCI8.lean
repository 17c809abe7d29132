import Derived.Test.YthoekndjeclimaaGreatDoorCI7
import Derived.WalkMore
namespace Go.Proofs.YthoekndjeclimaaGreatDoor
open Go.RowKit
/-- V2 -/
def rootOf4 (n m : Int) (leaf : List UInt8) (path : List (List UInt8)) : List UInt8 × Int :=
  if (lenOf n m).2 = 0 then (if chk leaf path (lenOf n m).1 = 0 then (Tree.upd leaf (Tree.D n.toNat m.toNat) path, 0) else ([], chk leaf path (lenOf n m).1)) else ([], (lenOf n m).2)
def incOf4 (n m : Int) (leaf : List UInt8) (path : List (List UInt8)) (root : List UInt8) : Int :=
  if (rootOf4 n m leaf path).2 = 0 then (if root.length = 32 then (if (rootOf4 n m leaf path).1 = root then 0 else 44) else 42) else (rootOf4 n m leaf path).2
theorem str_ne {a b : List UInt8} (h : a ≠ b) : ((ByteArray.mk a.toArray).toList != (ByteArray.mk b.toArray).toList) = true := by
  rw [ByteArray.toList_eq, ByteArray.toList_eq]
  show (a != b) = true
  simpa using h
theorem str_eq (a : List UInt8) : ((ByteArray.mk a.toArray).toList != (ByteArray.mk a.toArray).toList) = false := by simp
theorem lenOf_ok {n m : Int} (h : (lenOf n m).2 = 0) : 1 ≤ n ∧ n ≤ 1099511627776 ∧ 0 ≤ m ∧ m < n ∧ lenOf n m = ((((Tree.D n.toNat m.toNat).length : Nat) : Int), 0) := by
  unfold lenOf at h ⊢
  split at h
  · simp at h
  · split at h
    · simp at h
    · refine ⟨by omega, by omega, by omega, by omega, ?_⟩
      rename_i h1 h2
      rw [if_neg h1, if_neg h2]
theorem chk_len {x : List UInt8} {l : List (List UInt8)} {n : Int} (h : chk x l n = 0) : (l.length : Int) = n ∧ x.length = 32 ∧ l.all (·.length == 32) = true := by
  unfold chk at h
  split at h
  · rename_i h1
    split at h
    · exact ⟨by assumption, h1.1, h1.2⟩
    · omega
  · omega
theorem svE : sv [] = .string ⟨#[]⟩ := rfl
set_option maxRecDepth 100000 in
set_option maxHeartbeats 2000000 in
theorem RootOf_any (n m : Int) (leaf : List UInt8) (path : List (List UInt8)) (a : Option Addr) (cap : Nat) (w : World) (hc : path.length ≤ 9223372036854775807) (hA : At w a path) (T : Tabs w) :
    Calls Tryz.prog 47 #[.int .i64 n, .int .i64 m, sv leaf, .slice a path.length cap] w fun e w' => e = .returned (.tuple #[sv (rootOf4 n m leaf path).1, .int .i64 (rootOf4 n m leaf path).2]) ∧ Below w.heap.size w w' := by
  have h1 := PathLen_any n m w
  by_cases h : (lenOf n m).2 = 0
  · obtain ⟨a1, a2, a3, a4, hl⟩ := lenOf_ok h
    have h2 := fun w1 (hb : Below w.heap.size w w1) => checkHashes_any leaf path (lenOf n m).1 a cap w1 hc (hA.below hb (Nat.le_refl _))
    by_cases hk : chk leaf path (lenOf n m).1 = 0
    · have ho : rootOf4 n m leaf path = (Tree.upd leaf (Tree.D n.toNat m.toNat) path, 0) := by rw [rootOf4, if_pos h, if_pos hk]
      rw [ho]
      rw [hk] at h2
      have hlen := (chk_len hk).1
      rw [hl] at hlen h1 h2
      simp only at hlen h1 h2
      have hD := Tree.D_U _ n.toNat m.toNat (Nat.le_refl _) (by omega)
      have hUl := Tree.U_len 40 m.toNat (n.toNat - 1) (by omega)
      rw [hD] at hlen h1 h2 ⊢
      have h3 := fun w1 => pathWay_any n.toNat m.toNat (by omega) (by omega) w1
      rw [Int.toNat_of_nonneg a3, Int.toNat_of_nonneg (show 0 ≤ n by omega)] at h3
      have h4 := fun w1 (hb : Below w.heap.size w w1) => goUpPath_any m.toNat (n.toNat - 1) leaf path a cap w1 (by omega) (by omega) (by omega) (hA.below hb (Nat.le_refl _)) (T.below hb T.lt) (by omega)
      generalize Tree.upd leaf (Tree.U m.toNat (n.toNat - 1)) path = X at *
      generalize (Tree.U m.toNat (n.toNat - 1)).length = L at *
      generalize m.toNat = m' at *
      generalize n.toNat - 1 = n' at *
      generalize path.length = pl at *
      clear hA T hl hk h ho hD hlen hUl
      go_enter Tryz.func47, Tryz.ntmps47
      go_wp2_with (first
        | (go_at_call 68; refine h1.mono ?_; rintro e w1 ⟨rfl, hw1⟩)
        | (go_at_call 69; refine (h2 _ hw1).mono ?_; rintro e w2 ⟨rfl, rfl⟩)
        | (go_at_call 71; refine (h3 _).mono ?_; rintro e w3 ⟨rfl, hw3⟩; have hb3 := hid (hw1.trans (hw3.mono hw1.size)))
        | (go_at_call 70; refine (h4 _ hb3.out).mono ?_; rintro e w4 ⟨rfl, hw4⟩))
      go_ret2
      exact ⟨rfl, hb3.out.trans (hw4.mono hb3.out.size)⟩
    · have ho : rootOf4 n m leaf path = ([], chk leaf path (lenOf n m).1) := by rw [rootOf4, if_pos h, if_neg hk]
      rw [ho, svE]
      rw [hl] at h1 h2 hk ⊢
      simp only at h1 h2 hk ⊢
      generalize ((((Tree.D n.toNat m.toNat).length : Nat) : Int)) = L at *
      generalize chk leaf path L = z at *
      have b0 : (z != 0) = true := by simpa using hk
      generalize path.length = pl at *
      clear hA T hl ho h
      go_enter Tryz.func47, Tryz.ntmps47
      go_wp2_with (first
        | (go_at_call 68; refine h1.mono ?_; rintro e w1 ⟨rfl, hw1⟩)
        | (go_at_call 69; refine (h2 _ hw1).mono ?_; rintro e w2 ⟨rfl, rfl⟩))
      go_ret2
      exact ⟨rfl, hw1⟩
  · have ho : rootOf4 n m leaf path = ([], (lenOf n m).2) := by rw [rootOf4, if_neg h]
    rw [ho, svE]
    generalize (lenOf n m).1 = y at *
    generalize (lenOf n m).2 = z at *
    have b0 : (z != 0) = true := by simpa using h
    generalize path.length = pl at *
    clear hA T ho
    go_enter Tryz.func47, Tryz.ntmps47
    go_wp2_with (go_at_call 68; refine h1.mono ?_; rintro e w1 ⟨rfl, hw1⟩)
    go_ret2
    exact ⟨rfl, hw1⟩
set_option maxRecDepth 100000 in
set_option maxHeartbeats 2000000 in
theorem Inclusion_any (n m : Int) (leaf : List UInt8) (path : List (List UInt8)) (root : List UInt8) (a : Option Addr) (cap : Nat) (w : World) (hc : path.length ≤ 9223372036854775807) (hA : At w a path) (T : Tabs w) :
    Calls Tryz.prog 19 #[.int .i64 n, .int .i64 m, sv leaf, .slice a path.length cap, sv root] w fun e w' => e = .returned (.int .i64 (incOf4 n m leaf path root)) ∧ Below w.heap.size w w' := by
  have h1 := RootOf_any n m leaf path a cap w hc hA T
  have hs := sv_size root
  unfold incOf4
  generalize rootOf4 n m leaf path = o at *
  obtain ⟨r, z⟩ := o
  simp only at h1 ⊢
  generalize path.length = pl at *
  clear hA T
  by_cases hz : z = 0
  · subst hz
    rw [if_pos rfl]
    by_cases h32 : root.length = 32
    · rw [if_pos h32]
      have i1 := isHash_at ⟨root.toArray⟩ true (by rw [hs, h32]; rfl)
      by_cases he : r = root
      · subst he
        rw [if_pos rfl]
        have e1 := str_eq r
        have e2 : ((ByteArray.mk r.toArray).toList == (ByteArray.mk r.toArray).toList) = true := by simp
        rw [show sv r = .string ⟨r.toArray⟩ from rfl] at h1 ⊢
        generalize ByteArray.mk r.toArray = R at *
        go_enter Tryz.func19, Tryz.ntmps19
        go_wp2_with (first
          | (go_at_call 47; refine h1.mono ?_; rintro e w1 ⟨rfl, hw1⟩)
          | (go_at_call 48; refine (i1 _).mono ?_; rintro e w2 ⟨rfl, rfl⟩))
        go_ret
        exact ⟨rfl, hw1⟩
      · rw [if_neg he]
        have e1 := str_ne he
        have e2 : ((ByteArray.mk r.toArray).toList == (ByteArray.mk root.toArray).toList) = false := by rw [← Bool.not_inj_iff]; exact e1
        rw [show sv r = .string ⟨r.toArray⟩ from rfl] at h1
        rw [show sv root = .string ⟨root.toArray⟩ from rfl]
        generalize ByteArray.mk r.toArray = R at *
        generalize ByteArray.mk root.toArray = R' at *
        go_enter Tryz.func19, Tryz.ntmps19
        go_wp2_with (first
          | (go_at_call 47; refine h1.mono ?_; rintro e w1 ⟨rfl, hw1⟩)
          | (go_at_call 48; refine (i1 _).mono ?_; rintro e w2 ⟨rfl, rfl⟩))
        go_ret
        exact ⟨rfl, hw1⟩
    · rw [if_neg h32]
      have i1 := isHash_at ⟨root.toArray⟩ false (by rw [hs]; simp; omega)
      rw [show sv root = .string ⟨root.toArray⟩ from rfl]
      generalize ByteArray.mk root.toArray = R' at *
      go_enter Tryz.func19, Tryz.ntmps19
      go_wp2_with (first
        | (go_at_call 47; refine h1.mono ?_; rintro e w1 ⟨rfl, hw1⟩)
        | (go_at_call 48; refine (i1 _).mono ?_; rintro e w2 ⟨rfl, rfl⟩))
      go_ret
      exact ⟨rfl, hw1⟩
  · rw [if_neg hz]
    have b0 : (z != 0) = true := by simpa using hz
    go_enter Tryz.func19, Tryz.ntmps19
    go_wp2_with (go_at_call 47; refine h1.mono ?_; rintro e w1 ⟨rfl, hw1⟩)
    go_ret
    exact ⟨rfl, hw1⟩
end Go.Proofs.YthoekndjeclimaaGreatDoor

namespace Go.Proofs.YthoekndjeclimaaGreatDoor
open Go.RowKit
set_option maxRecDepth 100000 in
set_option maxHeartbeats 8000000 in
theorem goUpProof_zero (p l : Nat) (hp0 : p = 0) (old : List UInt8) (proof : List (List UInt8)) (a : Option Addr) (cap : Nat) (w : World) (hl : l < 9223372036854775807) (hlen : proof.length = (Tree.U p l).length) (hA : At w a proof) (T : Tabs w) (hpl : proof.length ≤ 1000) :
    Calls Tryz.prog 83 #[wy p l, sv old, .slice a proof.length cap] w fun e w' => e = .returned (.tuple #[sv (Tree.upd2 old old (Tree.U p l) proof).1, sv (Tree.upd2 old old (Tree.U p l) proof).2]) ∧ Below w.heap.size w w' := by
  have hp : p ≤ l := by omega
  obtain ⟨XA, XB, hX⟩ : ∃ XA XB, Hid (Tree.upd2 old old (Tree.U p l) proof = (XA, XB)) := ⟨_, _, rfl⟩
  rw [hX.out]
  have hb0 := (Below.refl w.heap.size w).alloc (Nat.le_refl _) (.cells #[Value.int .i64 (p : Int), Value.int .i64 (l : Int)] 93)
  have hc := vcopied_any proof a cap (w.alloc (.cells #[Value.int .i64 (p : Int), Value.int .i64 (l : Int)] 93)) (by omega) (hA.below hb0 (Nat.le_refl _))
  have HT := hid T
  have hT := T.lt
  have HB0 := hid hb0
  have HW0 := hid (Wy.new w p l)
  obtain ⟨n, hn⟩ : ∃ n, Hid (proof.length = n) := ⟨_, rfl⟩
  rw [hn.out] at hc ⊢
  have Hlen := hid hlen
  have Hp0 := hid hp0
  clear hp0
  clear hA T hb0 hlen
  go_enter Tryz.func83, Tryz.ntmps83
  go_wp2
  go_step3
  go_wp2_with (go_at_call 93; fail)
  refine hc.mono ?_
  rintro e w1 ⟨rfl, hR, hw1⟩
  have cW := (HW0.out.below hw1).c0
  have b7 : ((p : Int) != 0) = false := by have := Hp0.out; simp; omega
  go_wp2

  go_step3
  go_wp2
  have hW1 := hid (HW0.out.below hw1)
  have hB1 := hid (HB0.out.trans (hw1.mono HB0.out.size))
  have hne : (⟨(w.alloc (.cells #[Value.int .i64 (p : Int), Value.int .i64 (l : Int)] 93)).heap.size, 0, none⟩ : Addr).block ≠ w.heap.size := by
    show (w.alloc _).heap.size ≠ _
    rw [size_alloc]; omega
  have hR1 : Hid (Rst w.heap.size w1 (.slice (some ⟨(w.alloc (.cells #[Value.int .i64 (p : Int), Value.int .i64 (l : Int)] 93)).heap.size, 0, none⟩) n n) proof) := by
    refine ⟨_, n, by rw [hn.out], by rw [hn.out]; omega, by rw [← hn.out]; omega, hR.at, ?_⟩
    rintro x hx
    obtain rfl := Option.some.inj hx
    exact hne
  clear hc HW0 HB0 hw1 hR hne
  rw [size_alloc] at hR1
  go_loopw [6, 7, 8] (fun va vb rest w' => ∃ x y A B Q, va = sv A ∧ vb = sv B ∧ x ≤ y ∧ y ≤ l ∧ Hid (Q.length = (Tree.U x y).length) ∧ Hid (Tree.upd2 A B (Tree.U x y) Q = (XA, XB)) ∧ Hid (Rst w.heap.size w' rest Q) ∧ Hid (Wy w' w.heap.size x y) ∧ Hid (Below w.heap.size w w')) (fun _ _ _ w' => numAt w' w.heap.size 1)
  case atStart => exact ⟨p, l, old, old, proof, rfl, rfl, hp, Nat.le_refl _, Hlen, hX, hR1, hW1, hB1⟩
  case round =>
    clear Hlen hX hR1 hW1 hB1
    obtain ⟨x, y, A, B, Q, rfl, rfl, hxy, hyl, hQl, hU, hQ, hW, hB⟩ := hrel
    have c0 := hW.out.c0
    have c1 := hW.out.c1
    by_cases h0 : y = 0
    · subst h0
      have e := hid (show (A, B) = (XA, XB) by have := hU.out; rw [Tree.U_zero] at this; exact this)
      have eA := hid (congrArg Prod.fst e.out)
      have eB := hid (congrArg Prod.snd e.out)
      go_wp2
      try rw [Exit.noGoto_ret]
      go_ret2
      exact ⟨by rw [← show A = XA from eA.out, ← show B = XB from eB.out]; rfl, hB.out⟩
    · have b1 : ((y : Int) == 0) = false := by simp; omega
      obtain ⟨a', c', rfl, hc1, hc2, hAt, hab'⟩ := hQ.out
      have hab := above_any x y hxy h0 (by omega)
      have hfl := fromLeft_any x y (by omega) (by omega) wr
      match Q, hQl, hU, hc1, hAt with
      | [], hQl, _, _, _ =>
        exact absurd (List.length_eq_zero_iff.1 hQl.out.symm) (Tree.U_ne y x hxy h0)
      | q :: Q, hQl, hU, hc1, hAt =>
        obtain ⟨y1, rfl⟩ := hAt.pos (by simp)
        have hyg := hab' y1 rfl
        obtain ⟨z, hz, hzb, hcell⟩ := hAt 0 q rfl
        obtain rfl := Option.some.inj hz
        rw [addr_zero] at hcell
        have hAt' := hid hAt
        clear hAt hQ hz hab'
        have hq1 : 0 < (q :: Q).length := by simp
        generalize hql : (q :: Q).length = k at *
        have Hql := hid hql
        clear hql
        by_cases hcc : c' = 1
        · subst hcc
          by_cases hd : (x % 2 == 1 || x == y) = true
          · rw [hd] at hfl
            obtain ⟨Ma, hMa⟩ : ∃ M, Hid (Tree.nd q A = M) := ⟨_, rfl⟩
            have hMa' := hMa
            obtain ⟨M, hM⟩ : ∃ M, Hid (Tree.nd q B = M) := ⟨_, rfl⟩
            have hM' := hM
            go_wp2_with (first
              | ((with_reducible show wpList _ _ _ (Oper.mk _ (Op.load 93 _) _ _ _ _ :: _) _ _); go_must (refine wpList_load_row rfl 93 _ rfl w.heap.size rfl 93 _ (0, 0) _ hW.out.row Tryz.underlying93 rfl (sizeW' _ _) ?_))
              | (go_at_call 94; fail))
            refine hfl.mono ?_
            rintro e w2 ⟨rfl, hw2⟩
            have T2 := HT.out.below (hB.out.trans (hw2.mono hB.out.size)) hT
            have hcell2 := (hw2.cell (p := y1) hzb).trans hcell
            have T2d : Tabs w2.drew := T2.below (Below.refl w2.heap.size w2).drew T2.lt
            have hzb2 := Nat.lt_of_lt_of_le hzb hw2.size
            go_wp2
            go_region_held3 (fun w' => w'.cell? y1 = some (sv q)) (first | exact hcell4 | exact hcell3 | exact hcell2) (first
              | (go_at_call 95; (with_reducible refine (vnode_any hMa w2.drew T2d).mono ?_); rintro e w3a ⟨rfl, hw3a'⟩; have hw3a := (Below.refl _ w2).drew.trans hw3a'; have hcell3 := (hw3a.cell (p := y1) hzb2).trans hcell2; have T3 := T2.below hw3a T2.lt)
              | (go_at_call 95; (with_reducible refine (vnode_any hM _ T3).mono ?_); rintro e w3 ⟨rfl, hw3b⟩; have hw3 := hw3a.trans (hw3b.mono hw3a.size); have hcell4 := (hw3.cell (p := y1) hzb2).trans hcell2))
            go_wp2
            have hb3 := hw2.trans (hw3.mono hw2.size)
            have hW3 := hW.out.below hb3
            have hAt3 := hid (hAt'.out.below hb3 (Nat.le_refl _))
            have hB3 := hid (hB.out.trans (hb3.mono hB.out.size))
            have d0 := hW3.c0
            have d1 := hW3.c1
            have hab3 := hab w3.drew
            clear hcell hcell2 hw2 T2 hfl hb3 hM hMa
            go_region_with ((go_at_call 96; refine hab3.mono ?_; rintro e w4 ⟨x', y', rfl, hw4, hx', hy', hU'⟩; have hW4 := Wy.below (show Wy w3.drew _ _ _ from hW3) hw4; have d4 := hW4.c0; have d5 := hW4.c1; have f4 := hW4.f0; have f5 := hW4.f1))
            all_goals go_wp2
            all_goals
              rw [hW4.two x' y']
              have uu := hU'.out
              rw [hd] at uu
              have hQl' : Hid (Q.length = (Tree.U x' y').length) := by
                have := hQl.out
                rw [uu, List.length_cons, ← Hql.out, List.length_cons] at this
                exact Nat.succ.inj this
              have hX' : Hid (Tree.upd2 Ma M (Tree.U x' y') Q = (XA, XB)) := by
                have := hU.out
                rw [uu] at this
                unfold Tree.upd2 at this
                rw [hMa'.out, hM'.out] at this
                exact this
              have hb4 : Below w3.heap.size w3 w4 := (Below.refl _ w3).drew.trans hw4
              have hR4 := (Rst.last (g := w.heap.size) (w := w4) hyg Hql.out (by omega)).setRow #[.int .i64 (x' : Int), .int .i64 (y' : Int)]
              have hB4 := Below.setRow (hB3.out.trans (hb4.mono hB3.out.size)) (Nat.le_refl _) #[.int .i64 (x' : Int), .int .i64 (y' : Int)]
              refine ⟨?_, by rw [(hW4.set x' y').n1, hW.out.n1]; exact hy'⟩
              repeat apply Exists.intro
              exact ⟨⟨x', y', Ma, M, Q, rfl, rfl, hx', by omega, hQl', hX', hid hR4, hid (hW4.set x' y'), hid hB4⟩, rfl⟩
          · replace hd : (x % 2 == 1 || x == y) = false := by simpa using hd
            rw [hd] at hfl
            obtain ⟨M, hM⟩ : ∃ M, Hid (Tree.nd B q = M) := ⟨_, rfl⟩
            have hM' := hM
            go_wp2_with (first
              | ((with_reducible show wpList _ _ _ (Oper.mk _ (Op.load 93 _) _ _ _ _ :: _) _ _); go_must (refine wpList_load_row rfl 93 _ rfl w.heap.size rfl 93 _ (0, 0) _ hW.out.row Tryz.underlying93 rfl (sizeW' _ _) ?_))
              | (go_at_call 94; fail))
            refine hfl.mono ?_
            rintro e w2 ⟨rfl, hw2⟩
            have T2 := HT.out.below (hB.out.trans (hw2.mono hB.out.size)) hT
            have hcell2 := (hw2.cell (p := y1) hzb).trans hcell
            go_wp2_with (go_at_call 95; refine (vnode_any hM _ T2).mono ?_; rintro e w3 ⟨rfl, hw3⟩)
            have hb3 := hw2.trans (hw3.mono hw2.size)
            have hW3 := hW.out.below hb3
            have hAt3 := hid (hAt'.out.below hb3 (Nat.le_refl _))
            have hB3 := hid (hB.out.trans (hb3.mono hB.out.size))
            have d0 := hW3.c0
            have d1 := hW3.c1
            have hab3 := hab w3.drew
            clear hcell hcell2 hw2 T2 hfl hb3 hM hw3
            go_region_with ((go_at_call 96; refine hab3.mono ?_; rintro e w4 ⟨x', y', rfl, hw4, hx', hy', hU'⟩; have hW4 := Wy.below (show Wy w3.drew _ _ _ from hW3) hw4; have d4 := hW4.c0; have d5 := hW4.c1; have f4 := hW4.f0; have f5 := hW4.f1))
            all_goals go_wp2
            all_goals
              rw [hW4.two x' y']
              have uu := hU'.out
              rw [hd] at uu
              have hQl' : Hid (Q.length = (Tree.U x' y').length) := by
                have := hQl.out
                rw [uu, List.length_cons, ← Hql.out, List.length_cons] at this
                exact Nat.succ.inj this
              have hX' : Hid (Tree.upd2 A M (Tree.U x' y') Q = (XA, XB)) := by
                have := hU.out
                rw [uu] at this
                unfold Tree.upd2 at this
                rw [hM'.out] at this
                exact this
              have hb4 : Below w3.heap.size w3 w4 := (Below.refl _ w3).drew.trans hw4
              have hR4 := (Rst.last (g := w.heap.size) (w := w4) hyg Hql.out (by omega)).setRow #[.int .i64 (x' : Int), .int .i64 (y' : Int)]
              have hB4 := Below.setRow (hB3.out.trans (hb4.mono hB3.out.size)) (Nat.le_refl _) #[.int .i64 (x' : Int), .int .i64 (y' : Int)]
              refine ⟨?_, by rw [(hW4.set x' y').n1, hW.out.n1]; exact hy'⟩
              repeat apply Exists.intro
              exact ⟨⟨x', y', A, M, Q, rfl, rfl, hx', by omega, hQl', hX', hid hR4, hid (hW4.set x' y'), hid hB4⟩, rfl⟩
        · have hcc2 : ¬ (c' : Int) = 1 := by omega
          by_cases hd : (x % 2 == 1 || x == y) = true
          · rw [hd] at hfl
            obtain ⟨Ma, hMa⟩ : ∃ M, Hid (Tree.nd q A = M) := ⟨_, rfl⟩
            have hMa' := hMa
            obtain ⟨M, hM⟩ : ∃ M, Hid (Tree.nd q B = M) := ⟨_, rfl⟩
            have hM' := hM
            go_wp2_with (first
              | ((with_reducible show wpList _ _ _ (Oper.mk _ (Op.load 93 _) _ _ _ _ :: _) _ _); go_must (refine wpList_load_row rfl 93 _ rfl w.heap.size rfl 93 _ (0, 0) _ hW.out.row Tryz.underlying93 rfl (sizeW' _ _) ?_))
              | (go_at_call 94; fail))
            refine hfl.mono ?_
            rintro e w2 ⟨rfl, hw2⟩
            have T2 := HT.out.below (hB.out.trans (hw2.mono hB.out.size)) hT
            have hcell2 := (hw2.cell (p := y1) hzb).trans hcell
            have T2d : Tabs w2.drew := T2.below (Below.refl w2.heap.size w2).drew T2.lt
            have hzb2 := Nat.lt_of_lt_of_le hzb hw2.size
            go_wp2
            go_region_held3 (fun w' => w'.cell? y1 = some (sv q)) (first | exact hcell4 | exact hcell3 | exact hcell2) (first
              | (go_at_call 95; (with_reducible refine (vnode_any hMa w2.drew T2d).mono ?_); rintro e w3a ⟨rfl, hw3a'⟩; have hw3a := (Below.refl _ w2).drew.trans hw3a'; have hcell3 := (hw3a.cell (p := y1) hzb2).trans hcell2; have T3 := T2.below hw3a T2.lt)
              | (go_at_call 95; (with_reducible refine (vnode_any hM _ T3).mono ?_); rintro e w3 ⟨rfl, hw3b⟩; have hw3 := hw3a.trans (hw3b.mono hw3a.size); have hcell4 := (hw3.cell (p := y1) hzb2).trans hcell2))
            go_wp2
            have hb3 := hw2.trans (hw3.mono hw2.size)
            have hW3 := hW.out.below hb3
            have hAt3 := hid (hAt'.out.below hb3 (Nat.le_refl _))
            have hB3 := hid (hB.out.trans (hb3.mono hB.out.size))
            have d0 := hW3.c0
            have d1 := hW3.c1
            have hab3 := hab w3.drew
            clear hcell hcell2 hw2 T2 hfl hb3 hM hMa
            go_region_with ((go_at_call 96; refine hab3.mono ?_; rintro e w4 ⟨x', y', rfl, hw4, hx', hy', hU'⟩; have hW4 := Wy.below (show Wy w3.drew _ _ _ from hW3) hw4; have d4 := hW4.c0; have d5 := hW4.c1; have f4 := hW4.f0; have f5 := hW4.f1))
            all_goals go_wp2
            all_goals
              rw [hW4.two x' y']
              have uu := hU'.out
              rw [hd] at uu
              have hQl' : Hid (Q.length = (Tree.U x' y').length) := by
                have := hQl.out
                rw [uu, List.length_cons, ← Hql.out, List.length_cons] at this
                exact Nat.succ.inj this
              have hX' : Hid (Tree.upd2 Ma M (Tree.U x' y') Q = (XA, XB)) := by
                have := hU.out
                rw [uu] at this
                unfold Tree.upd2 at this
                rw [hMa'.out, hM'.out] at this
                exact this
              have hb4 : Below w3.heap.size w3 w4 := (Below.refl _ w3).drew.trans hw4
              have hR4 := (Rst.tail (g := w.heap.size) (hAt3.out.below hb4 (Nat.le_refl _)) hyg Hql.out hc1 hc2).setRow #[.int .i64 (x' : Int), .int .i64 (y' : Int)]
              have hB4 := Below.setRow (hB3.out.trans (hb4.mono hB3.out.size)) (Nat.le_refl _) #[.int .i64 (x' : Int), .int .i64 (y' : Int)]
              refine ⟨?_, by rw [(hW4.set x' y').n1, hW.out.n1]; exact hy'⟩
              repeat apply Exists.intro
              exact ⟨⟨x', y', Ma, M, Q, rfl, rfl, hx', by omega, hQl', hX', hid hR4, hid (hW4.set x' y'), hid hB4⟩, rfl⟩
          · replace hd : (x % 2 == 1 || x == y) = false := by simpa using hd
            rw [hd] at hfl
            obtain ⟨M, hM⟩ : ∃ M, Hid (Tree.nd B q = M) := ⟨_, rfl⟩
            have hM' := hM
            go_wp2_with (first
              | ((with_reducible show wpList _ _ _ (Oper.mk _ (Op.load 93 _) _ _ _ _ :: _) _ _); go_must (refine wpList_load_row rfl 93 _ rfl w.heap.size rfl 93 _ (0, 0) _ hW.out.row Tryz.underlying93 rfl (sizeW' _ _) ?_))
              | (go_at_call 94; fail))
            refine hfl.mono ?_
            rintro e w2 ⟨rfl, hw2⟩
            have T2 := HT.out.below (hB.out.trans (hw2.mono hB.out.size)) hT
            have hcell2 := (hw2.cell (p := y1) hzb).trans hcell
            go_wp2_with (go_at_call 95; refine (vnode_any hM _ T2).mono ?_; rintro e w3 ⟨rfl, hw3⟩)
            have hb3 := hw2.trans (hw3.mono hw2.size)
            have hW3 := hW.out.below hb3
            have hAt3 := hid (hAt'.out.below hb3 (Nat.le_refl _))
            have hB3 := hid (hB.out.trans (hb3.mono hB.out.size))
            have d0 := hW3.c0
            have d1 := hW3.c1
            have hab3 := hab w3.drew
            clear hcell hcell2 hw2 T2 hfl hb3 hM hw3
            go_region_with ((go_at_call 96; refine hab3.mono ?_; rintro e w4 ⟨x', y', rfl, hw4, hx', hy', hU'⟩; have hW4 := Wy.below (show Wy w3.drew _ _ _ from hW3) hw4; have d4 := hW4.c0; have d5 := hW4.c1; have f4 := hW4.f0; have f5 := hW4.f1))
            all_goals go_wp2
            all_goals
              rw [hW4.two x' y']
              have uu := hU'.out
              rw [hd] at uu
              have hQl' : Hid (Q.length = (Tree.U x' y').length) := by
                have := hQl.out
                rw [uu, List.length_cons, ← Hql.out, List.length_cons] at this
                exact Nat.succ.inj this
              have hX' : Hid (Tree.upd2 A M (Tree.U x' y') Q = (XA, XB)) := by
                have := hU.out
                rw [uu] at this
                unfold Tree.upd2 at this
                rw [hM'.out] at this
                exact this
              have hb4 : Below w3.heap.size w3 w4 := (Below.refl _ w3).drew.trans hw4
              have hR4 := (Rst.tail (g := w.heap.size) (hAt3.out.below hb4 (Nat.le_refl _)) hyg Hql.out hc1 hc2).setRow #[.int .i64 (x' : Int), .int .i64 (y' : Int)]
              have hB4 := Below.setRow (hB3.out.trans (hb4.mono hB3.out.size)) (Nat.le_refl _) #[.int .i64 (x' : Int), .int .i64 (y' : Int)]
              refine ⟨?_, by rw [(hW4.set x' y').n1, hW.out.n1]; exact hy'⟩
              repeat apply Exists.intro
              exact ⟨⟨x', y', A, M, Q, rfl, rfl, hx', by omega, hQl', hX', hid hR4, hid (hW4.set x' y'), hid hB4⟩, rfl⟩
end Go.Proofs.YthoekndjeclimaaGreatDoor
