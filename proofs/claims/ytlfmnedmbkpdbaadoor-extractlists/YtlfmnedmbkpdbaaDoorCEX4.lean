import Derived.Test.YtlfmnedmbkpdbaaDoorCEX1
import Derived.Test.YtlfmnedmbkpdbaaDoorCEL3
/- how long the texts are -/
namespace Go.Proofs.YtlfmnedmbkpdbaaDoor
namespace Tree
theorem nt_len {a b : T} (ha : a.length = 32) (hb : b.length = 32) : (nt a b).length = 65 := by unfold nt; simp; omega
theorem hi_mem : ∀ (a b : List T) (p q : T), hi a b = some (p, q) → p ∈ a ∧ q ∈ b
  | [], _, p, q, h => by simp [hi] at h
  | _ :: _, [], p, q, h => by simp [hi] at h
  | x :: a, y :: b, p, q, h => by
    rw [hi] at h
    cases hh : hi a b with
    | none =>
      rw [hh] at h
      simp only at h
      split at h
      · cases h
      · injection h with h
        injection h with h1 h2
        subst h1 h2
        exact ⟨List.mem_cons_self .., List.mem_cons_self ..⟩
    | some z =>
      rw [hh] at h
      simp only at h
      injection h with h
      subst h
      have := hi_mem a b p q hh
      exact ⟨List.mem_cons_of_mem _ this.1, List.mem_cons_of_mem _ this.2⟩
theorem txs_len : ∀ (r : T) (ds : List Bool) (hs : List T), r.length = 32 → Hs hs → ∀ t ∈ txs r ds hs, t.length = 65
  | _, [], _, _, _, t, h => by simp [txs] at h
  | _, _ :: _, [], _, _, t, h => by simp [txs] at h
  | r, d :: ds, g :: hs, hr, H, t, h => by
    have c := H.cons
    rw [txs] at h
    rcases List.mem_cons.1 h with rfl | h
    · cases d
      · exact nt_len hr c.1
      · exact nt_len c.1 hr
    · exact txs_len _ ds hs (Sha.sha_length _) c.2 t h
theorem partF_len : ∀ (f : Nat) (a b : List T) (p q : T), Hs a → Hs b → partF f a b = some (p, q) → p.length = 65 ∧ q.length = 65
  | 0, a, b, p, q, _, _, h => by simp [partF] at h
  | f + 1, a, b, p, q, ha, hb, h => by
    rw [partF] at h
    split at h
    · cases h
    · split at h
      · split at h
        · exact partF_len f _ _ p q (ha.drop _) (hb.drop _) h
        · exact partF_len f _ _ p q (ha.take _) (hb.take _) h
      · injection h with h
        injection h with h1 h2
        subst h1 h2
        exact ⟨nt_len (root_len (ha.take _)) (root_len (ha.drop _)), nt_len (root_len (hb.take _)) (root_len (hb.drop _))⟩
end Tree
end Go.Proofs.YtlfmnedmbkpdbaaDoor

namespace Go.Proofs.YtlfmnedmbkpdbaaDoor
open Go.RowKit
set_option maxRecDepth 100000 in
set_option maxHeartbeats 2000000 in
theorem paths_any (n m : Int) (root leaf other : List UInt8) (path way : List (List UInt8)) (vp vw : Value) (w : World) (hp : Lv w vp path) (hw : Lv w vw way) (T : Tabs w) :
    Calls Tryd.prog 4 #[.int .i64 n, .int .i64 m, sv root, sv leaf, vp, sv other, vw] w fun e w' => e = .returned (.bool true) ∧ Below w.heap.size w w' := by
  have HLP := hid hp
  have HLW := hid hw
  obtain ⟨ap, cp, rfl, p1, p2, p3⟩ := hp
  obtain ⟨aw, cw, rfl, q1, q2, q3⟩ := hw
  obtain ⟨np, HNP⟩ : ∃ n, Hid (path.length = n) := ⟨_, rfl⟩
  obtain ⟨nw, HNW⟩ : ∃ n, Hid (way.length = n) := ⟨_, rfl⟩
  have i1 := fun w' (hb : Below w.heap.size w w') => Inclusion_any n m leaf path root ap cp w' (by omega) (p3.below hb (Nat.le_refl _)) (T.below hb T.lt)
  have i2 := fun w' (hb : Below w.heap.size w w') => Inclusion_any n m other way root aw cw w' (by omega) (q3.below hb (Nat.le_refl _)) (T.below hb T.lt)
  have i3 := fun w' (hb : Below w.heap.size w w') => Incl_any n m root leaf other path way _ _ w' (HLP.out.below hb) (HLW.out.below hb) (T.below hb T.lt)
  have i4 := fun w' (hb : Below w.heap.size w w') => alike_any path way ap aw cp cw w' (p3.below hb (Nat.le_refl _)) (q3.below hb (Nat.le_refl _)) (by omega) (by omega)
  have i0 := awake_any w T
  rw [HNP.out, svS, svS] at i1
  rw [HNW.out, svS, svS] at i2
  rw [HNP.out, HNW.out] at i3 i4 ⊢
  rw [svS root, svS leaf, svS other] at i3 ⊢
  have HT := hid T
  obtain ⟨za, hza⟩ : ∃ z, incOf4 n m leaf path root = z := ⟨_, rfl⟩
  obtain ⟨zb, hzb⟩ : ∃ z, incOf4 n m other way root = z := ⟨_, rfl⟩
  rw [hza] at i1
  rw [hzb] at i2
  obtain ⟨p, q, ze, hio⟩ : ∃ p q ze, Hid (incO n m root leaf path other way = ((p, q), ze)) := ⟨_, _, _, rfl⟩
  rw [hio.out] at i3
  have i3 := fun w' hb => show Calls Tryd.prog 12 #[.int .i64 n, .int .i64 m, .string ⟨root.toArray⟩, .string ⟨leaf.toArray⟩, .slice ap np cp, .string ⟨other.toArray⟩, .slice aw nw cw] w' fun e w'' => e = .returned (.tuple #[.agg #[.string ⟨p.toArray⟩, .string ⟨q.toArray⟩], .int .i64 ze]) ∧ Below w'.heap.size w' w'' from i3 w' hb
  have HZA := hid hza
  have HZB := hid hzb
  clear hza hzb p3 q3 T HLP HLW
  go_enter Tryd.func4, Tryd.ntmps4
  go_wp2_with (go_at_call 6; fail)
  refine i0.mono ?_
  rintro e w1 ⟨rfl, b1⟩
  have B1 := hid b1
  have j1 := i1 w1 b1
  clear i0 i1 b1
  go_wp2_with (go_at_call 11; fail)
  refine j1.mono ?_
  rintro e w2 ⟨rfl, b2⟩
  have B2 := hid (B1.out.trans (b2.mono B1.out.size))
  have j2 := i2 w2 B2.out
  clear j1 i2 b2
  go_wp2_with (go_at_call 11; fail)
  refine j2.mono ?_
  rintro e w3 ⟨rfl, b3⟩
  have B3 := hid (B2.out.trans (b3.mono B2.out.size))
  have j3 := i3 w3 B3.out
  clear j2 i3 b3
  go_wp2_with (go_at_call 12; fail)
  refine j3.mono ?_
  rintro e w4 ⟨rfl, b4⟩
  clear j3
  have B4 := hid (B3.out.trans (b4.mono B3.out.size))
  have al := (Below.refl w4.heap.size w4).alloc (Nat.le_refl _) (.cells #[Value.string ⟨p.toArray⟩, .string ⟨q.toArray⟩] 25)
  have ro := heap_alloc_new w4 (.cells #[Value.string ⟨p.toArray⟩, .string ⟨q.toArray⟩] 25)
  have B5 := hid (B4.out.trans (al.mono B4.out.size))
  have RO := hid ro
  clear b4 al ro
  by_cases hza : za = 0
  · have e1 : (za != 0) = false := by subst hza; rfl
    by_cases hzb : zb = 0
    · have e2 : (zb != 0) = false := by subst hzb; rfl
      have hac : incOf4 n m leaf path root = 0 ∧ incOf4 n m other way root = 0 := ⟨HZA.out.trans hza, HZB.out.trans hzb⟩
      clear hza hzb
      by_cases hsame : leaf = other ∧ path = way
      · have h60 : ze = 60 := by
          have h := hio.out
          unfold incO at h
          rw [if_pos hac, if_pos hsame] at h
          exact (Prod.mk.inj h).2.symm
        have e3 : (ze != 0) = true := by rw [h60]; rfl
        have e4 : (ze == 60) = true := by rw [h60]; rfl
        have e5 : (leaf == other) = true := by simpa using hsame.1
        have j4 := i4 _ B5.out
        rw [decide_eq_true hsame.2] at j4
        clear h60 hsame hac i4 hio
        go_wp2_with (go_at_call 13; fail)
        refine j4.mono ?_
        rintro e w6 ⟨rfl, b6⟩
        have B6 := hid (B5.out.trans (b6.mono B5.out.size))
        clear j4 b6
        go_wp2
        go_ret
        exact ⟨rfl, B6.out⟩
      · obtain ⟨N, M, eN, eM, ia⟩ := Inc.of hac.1
        obtain ⟨N', M', eN', eM', ib⟩ := Inc.of hac.2
        obtain rfl : N' = N := by omega
        obtain rfl : M' = M := by omega
        obtain ⟨p', q', h1, h2, h3⟩ := inc_some ia ib hsame
        have hpq := hio.out
        unfold incO at hpq
        rw [if_pos hac, if_neg hsame, eN, eM, Int.toNat_natCast, Int.toNat_natCast, h1] at hpq
        have hpp := (Prod.mk.inj hpq).1
        have hze := (Prod.mk.inj hpq).2
        have hp1 := (Prod.mk.inj hpp).1
        have hq1 := (Prod.mk.inj hpp).2
        subst hp1 hq1
        have hm := Tree.hi_mem _ _ _ _ h1
        have hl1 := Tree.txs_len _ _ _ ia.l32 ia.hs _ hm.1
        have hl2 := Tree.txs_len _ _ _ ib.l32 ib.hs _ hm.2
        have j5 := unlike_yes p' q' (by omega) (by omega) h2 h3 (w4.alloc (.cells #[Value.string ⟨p'.toArray⟩, .string ⟨q'.toArray⟩] 25)) (HT.out.below B5.out HT.out.lt)
        have j5 : Calls Tryd.prog 10 #[.agg #[.string ⟨p'.toArray⟩, .string ⟨q'.toArray⟩]] (w4.alloc (.cells #[Value.string ⟨p'.toArray⟩, .string ⟨q'.toArray⟩] 25)) _ := j5
        have e3 : (ze != 0) = false := by rw [← hze]; rfl
        have c0 : (w4.alloc (.cells #[Value.string ⟨p'.toArray⟩, .string ⟨q'.toArray⟩] 25)).cell? ⟨w4.heap.size, 0, none⟩ = some (.string ⟨p'.toArray⟩) := by rw [cell_of_row _ _ _ _ _ _ RO.out]; rfl
        have c1 : (w4.alloc (.cells #[Value.string ⟨p'.toArray⟩, .string ⟨q'.toArray⟩] 25)).cell? ⟨w4.heap.size, 1, none⟩ = some (.string ⟨q'.toArray⟩) := by rw [cell_of_row _ _ _ _ _ _ RO.out]; rfl
        clear hpq hpp hze hm hl1 hl2 h1 h2 h3 ia ib eN eM eN' eM' hac hsame i4 hio
        go_wp2_with (go_at_call 10; fail)
        refine j5.mono ?_
        rintro e w6 ⟨rfl, b6⟩
        have B6 := hid (B5.out.trans (b6.mono B5.out.size))
        clear j5 b6
        go_wp2
        go_ret
        exact ⟨rfl, B6.out⟩
    · have e2 : (zb != 0) = true := by simpa using hzb
      have h61 : ze = 61 := by
        have h := hio.out
        unfold incO at h
        rw [if_neg (by rw [HZB.out]; exact fun h => hzb h.2)] at h
        exact (Prod.mk.inj h).2.symm
      have e3 : (ze == 61) = true := by rw [h61]; rfl
      clear h61 hza hzb i4 hio
      go_wp2
      go_ret
      exact ⟨rfl, B5.out⟩
  · have e1 : (za != 0) = true := by simpa using hza
    have h61 : ze = 61 := by
      have h := hio.out
      unfold incO at h
      rw [if_neg (by rw [HZA.out]; exact fun h => hza h.1)] at h
      exact (Prod.mk.inj h).2.symm
    have e3 : (ze == 61) = true := by rw [h61]; rfl
    clear h61 hza i4 hio
    go_wp2
    go_ret
    exact ⟨rfl, B5.out⟩
end Go.Proofs.YtlfmnedmbkpdbaaDoor

namespace Go.Proofs.YtlfmnedmbkpdbaaDoor
open Go.RowKit
set_option maxRecDepth 100000 in
set_option maxHeartbeats 2000000 in
theorem proofs_any (l : List (List UInt8)) (m : Int) (old : List UInt8) (P : List (List UInt8)) (vl vp : Value) (w : World) (hl : Lv w vl l) (hp : Lv w vp P) (T : Tabs w) :
    Calls Tryd.prog 3 #[vl, .int .i64 m, sv old, vp] w fun e w' => e = .returned (.bool true) ∧ Below w.heap.size w w' := by
  have HLL := hid hl
  have HLP := hid hp
  obtain ⟨al, cl, rfl, l1, l2, l3'⟩ := hl
  obtain ⟨ap, cp, rfl, p1, p2, p3'⟩ := hp
  obtain ⟨n, HN⟩ : ∃ n, Hid (l.length = n) := ⟨_, rfl⟩
  obtain ⟨np, HNP⟩ : ∃ n, Hid (P.length = n) := ⟨_, rfl⟩
  have i0 := awake_any w T
  have i1 := fun w' (hb : Below w.heap.size w w') => Cons_any l m old P _ _ w' (HLL.out.below hb) (HLP.out.below hb) (T.below hb T.lt)
  have i2 := fun w' (hb : Below w.heap.size w w') => Root_any l al cl w' l1 l2 (l3'.below hb (Nat.le_refl _)) (T.below hb T.lt)
  have i3 := fun w' (hb : Below w.heap.size w w') => Consistency_any m (l.length : Int) old (Tree.root l) P ap cp w' (by omega) (p3'.below hb (Nat.le_refl _)) (T.below hb T.lt)
  have i4 := fun (k : Nat) w' (hb : Below w.heap.size w w') => Root_any (l.take k) al cl w' (by rw [List.length_take]; omega) l2 ((l3'.below hb (Nat.le_refl _)).take k) (T.below hb T.lt)
  obtain ⟨ra, za, hra0⟩ : ∃ r z, rootOut l = (r, z) := ⟨_, _, rfl⟩
  have HZA : Hid (wrg l = za) := by unfold Hid; rw [← rootOut_snd, hra0]
  have HRA := hid hra0
  rw [hra0, HN.out, svS] at i2
  rw [HNP.out, HN.out, svS, svS] at i3
  rw [HN.out, HNP.out, svS old] at i1 ⊢
  rw [HN.out] at l1
  have HT := hid T
  obtain ⟨zb, hzb⟩ : ∃ z, conOf4 m (n : Int) old (Tree.root l) P = z := ⟨_, rfl⟩
  rw [hzb] at i3
  have HZB := hid hzb
  obtain ⟨p, q, ze, hio⟩ : ∃ p q ze, Hid (conO l m old P = ((p, q), ze)) := ⟨_, _, _, rfl⟩
  rw [hio.out] at i1
  have i1 := fun w' hb => show Calls Tryd.prog 7 #[.slice al n cl, .int .i64 m, .string ⟨old.toArray⟩, .slice ap np cp] w' fun e w'' => e = .returned (.tuple #[.agg #[.string ⟨p.toArray⟩, .string ⟨q.toArray⟩], .int .i64 ze]) ∧ Below w'.heap.size w' w'' from i1 w' hb
  clear hzb hra0 p3' l3' T HLL HLP
  go_enter Tryd.func3, Tryd.ntmps3
  go_wp2_with (go_at_call 6; fail)
  refine i0.mono ?_
  rintro e w1 ⟨rfl, b1⟩
  have B1 := hid b1
  have j1 := i1 w1 b1
  clear i0 i1 b1
  go_wp2_with (go_at_call 7; fail)
  refine j1.mono ?_
  rintro e w2 ⟨rfl, b2⟩
  have B2 := hid (B1.out.trans (b2.mono B1.out.size))
  have al' := (Below.refl w2.heap.size w2).alloc (Nat.le_refl _) (.cells #[Value.string ⟨p.toArray⟩, .string ⟨q.toArray⟩] 25)
  have ro := heap_alloc_new w2 (.cells #[Value.string ⟨p.toArray⟩, .string ⟨q.toArray⟩] 25)
  have B5 := hid (B2.out.trans (al'.mono B2.out.size))
  obtain ⟨w3, hw3⟩ : ∃ w3, Hid ((w2.alloc (.cells #[Value.string ⟨p.toArray⟩, .string ⟨q.toArray⟩] 25)) = w3) := ⟨_, rfl⟩
  have RO := hid ro
  rw [hw3.out] at B5 RO
  have j2 := i2 w3 B5.out
  clear b2 al' ro j1 i2
  go_wp2_with (go_at_call 8; fail)
  rw [hw3.out]
  refine j2.mono ?_
  rintro e w4 ⟨rfl, b4⟩
  have B4 := hid (B5.out.trans (b4.mono B5.out.size))
  have RO4 := hid ((b4.block _ (lt_of_heap RO.out)).trans RO.out)
  clear j2 b4 RO B5 hw3
  by_cases hza : za = 0
  · have e1 : (za != 0) = false := by subst hza; rfl
    have ol := Okl.of (HZA.out.trans hza)
    have HOL := hid ol
    have hrae : Hid (ra = Tree.root l) := by have := HRA.out; rw [ol.out] at this; exact (Prod.mk.inj this).1.symm
    have j3 := i3 w4 B4.out
    rw [← hrae.out] at j3
    clear i3 hza ol
    go_wp2_with (go_at_call 9; fail)
    refine j3.mono ?_
    rintro e w6 ⟨rfl, b6⟩
    have B6 := hid (B4.out.trans (b6.mono B4.out.size))
    have RO6 := hid ((b6.block _ (lt_of_heap RO4.out)).trans RO4.out)
    clear j3 b6 RO4 B4
    by_cases hzb : zb = 0
    · have e2 : (zb != 0) = false := by subst hzb; rfl
      have hac : Hid (conOf4 m (l.length : Int) old (Tree.root l) P = 0) := by unfold Hid; rw [HN.out, HZB.out, hzb]
      clear hzb
      obtain ⟨M, rfl, ic⟩ := Con.of hac.out
      have hMn := ic.le
      rw [HN.out] at hMn
      have HIC := hid ic
      have j4 := i4 M w6 B6.out
      rw [(HOL.out.take M).out, List.length_take, HN.out, Nat.min_eq_left hMn, svS] at j4
      obtain ⟨rb, hrb⟩ : ∃ rb, Hid (Tree.root (l.take M) = rb) := ⟨_, rfl⟩
      rw [hrb.out] at j4
      have m1 : (M : Int) ≤ (n : Int) := by omega
      have m2 : (M : Int) ≤ (cl : Int) := by omega
      clear i4 ic
      go_wp2_with (go_at_call 8; fail)
      refine j4.mono ?_
      rintro e w7 ⟨rfl, b7⟩
      have B7 := hid (B6.out.trans (b7.mono B6.out.size))
      have RO7 := hid ((b7.block _ (lt_of_heap RO6.out)).trans RO6.out)
      clear j4 b7 RO6 B6
      by_cases hro : rb = old
      · have e3 : (rb == old) = true := by simpa using hro
        have h60 : ze = 60 := by
          have h := hio.out
          unfold conO at h
          rw [if_pos HOL.out.wrg, if_pos hac.out, Int.toNat_natCast, if_pos (hrb.out.trans hro)] at h
          exact (Prod.mk.inj h).2.symm
        have e4 : (ze == 60) = true := by rw [h60]; rfl
        clear hro h60 hio
        go_wp2
        go_ret
        exact ⟨rfl, B7.out⟩
      · have e3 : (rb == old) = false := by simpa using hro
        have hne : Tree.root (l.take M) ≠ old := by rw [hrb.out]; exact hro
        obtain ⟨p', q', h1, h2, h3⟩ := Tree.con_some HIC.out.ge HIC.out.le HIC.out.len HIC.out.o32 HIC.out.hs HOL.out.1 HIC.out.up (Ne.symm hne)
        have hpq := hio.out
        unfold conO at hpq
        rw [if_pos HOL.out.wrg, if_pos hac.out, Int.toNat_natCast, if_neg hne, h1] at hpq
        have hpp := (Prod.mk.inj hpq).1
        have hze := (Prod.mk.inj hpq).2
        have hp1 := (Prod.mk.inj hpp).1
        have hq1 := (Prod.mk.inj hpp).2
        subst hp1 hq1
        have hm := Tree.hi_mem _ _ _ _ h1
        obtain ⟨f1, f2, f3⟩ := Tree.frm_ok HIC.out.len HIC.out.o32 HIC.out.hs
        obtain ⟨a1, a2, a3, a4⟩ := Tree.own_all l.length M l (Nat.le_refl _) HIC.out.ge HIC.out.le HOL.out.1
        have hl1 := Tree.txs_len _ _ _ f1 f2 _ hm.1
        have hl2 := Tree.txs_len _ _ _ a3 a2 _ hm.2
        have j5 := unlike_yes p' q' (by omega) (by omega) h2 h3 w7 (HT.out.below B7.out HT.out.lt)
        have j5 : Calls Tryd.prog 10 #[.agg #[.string ⟨p'.toArray⟩, .string ⟨q'.toArray⟩]] w7 _ := j5
        have e4 : (ze == 0) = true := by rw [← hze]; rfl
        have c0 : w7.cell? ⟨w2.heap.size, 0, none⟩ = some (.string ⟨p'.toArray⟩) := by rw [cell_of_row _ _ _ _ _ _ RO7.out]; rfl
        have c1 : w7.cell? ⟨w2.heap.size, 1, none⟩ = some (.string ⟨q'.toArray⟩) := by rw [cell_of_row _ _ _ _ _ _ RO7.out]; rfl
        clear hpq hpp hze hm hl1 hl2 h1 h2 h3 f1 f2 f3 a1 a2 a3 a4 hro hne hio
        go_wp2_with (go_at_call 10; fail)
        refine j5.mono ?_
        rintro e w8 ⟨rfl, b8⟩
        have B8 := hid (B7.out.trans (b8.mono B7.out.size))
        clear j5 b8
        go_wp2
        go_ret
        exact ⟨rfl, B8.out⟩
    · have e2 : (zb != 0) = true := by simpa using hzb
      have h61 : ze = 61 := by
        have h := hio.out
        unfold conO at h
        rw [if_pos HOL.out.wrg, if_neg (by rw [HN.out, HZB.out]; exact hzb)] at h
        exact (Prod.mk.inj h).2.symm
      have e3 : (ze == 61) = true := by rw [h61]; rfl
      clear h61 hzb i4 hio
      go_wp2
      go_ret
      exact ⟨rfl, B6.out⟩
  · have e1 : (za != 0) = true := by simpa using hza
    have h1 : ze = 1 := by
      have h := hio.out
      unfold conO at h
      rw [if_neg (by rw [HZA.out]; exact hza)] at h
      exact (Prod.mk.inj h).2.symm
    have e3 : (ze == 1) = true := by rw [h1]; rfl
    clear h1 hza i4 i3 hio
    go_wp2
    go_ret
    exact ⟨rfl, B4.out⟩
end Go.Proofs.YtlfmnedmbkpdbaaDoor
