import Derived.Test.YteilkpihddfpeaaGreatDoorPkMVF0
import Derived.Test.YteilkpihddfpeaaGreatDoorPkMVF1
import Derived.Test.YteilkpihddfpeaaGreatDoorPkMVF2
import Derived.Test.YteilkpihddfpeaaGreatDoorPkMVF3
import Derived.Test.YteilkpihddfpeaaGreatDoorPkMVF4
import Derived.Test.YteilkpihddfpeaaGreatDoorPkMVF5
import Derived.Test.YteilkpihddfpeaaGreatDoorPkMVF6
import Derived.Test.YteilkpihddfpeaaGreatDoorPkMVF7
import Derived.Test.YteilkpihddfpeaaGreatDoorPkMV3
import Derived.Test.YteilkpihddfpeaaGreatDoorPkMV5
import Derived.Test.YteilkpihddfpeaaGreatDoorPkMV8
import Derived.Deep.Slices
namespace Go.Proofs.YteilkpihddfpeaaGreatDoor
open Go.RowKit Cod
namespace Msg

theorem beq_noT {a b : Int} (h : ¬ a = b) : (a == b) = false := by simp [h]
theorem beq_noS {a b : List UInt8} (h : ¬ a = b) : ((⟨a.toArray⟩ : ByteArray).toList == (⟨b.toArray⟩ : ByteArray).toList) = false := by
  rw [ByteArray.toList_eq, ByteArray.toList_eq]
  simpa using h
/-- whole of a reply, whatever has come across -/
theorem wholeP_anyT {w : World} {base b c d : Nat} {v : Value} {s : LS} {x : Part} {uh ue up : Value} {t : Part} {th te tp : Value} (h : Pa w base b c d v s x uh ue up t th te tp) :
    Calls Tryz.prog 32 #[.pointer (some ⟨d, 0, none⟩)] w fun e w' => e = .returned (.bool (wholeP x t)) ∧ w' = w.drew := by
  obtain ⟨p1, q1, rfl, _⟩ := id h.s1
  obtain ⟨p2, q2, rfl, _⟩ := id h.s2
  obtain ⟨p3, q3, rfl⟩ := id h.s3
  obtain ⟨p4, q4, rfl⟩ := id h.t1
  obtain ⟨p5, q5, rfl⟩ := id h.t2
  obtain ⟨p6, q6, rfl⟩ := id h.t3
  have hr := h.row
  unfold rpArr at hr
  unfold wholeP
  clear h
  by_cases e0 : x.status = t.status
  · rw [decide_eq_true e0, Bool.true_and]
    rw [← e0] at hr
    by_cases e1 : x.size = t.size
    · rw [decide_eq_true e1, Bool.true_and]
      rw [← e1] at hr
      by_cases e2 : x.a = t.a
      · rw [decide_eq_true e2, Bool.true_and]
        rw [← e2] at hr
        by_cases e3 : x.b = t.b
        · rw [decide_eq_true e3, Bool.true_and]
          rw [← e3] at hr
          by_cases e4 : x.root = t.root
          · rw [decide_eq_true e4, Bool.true_and]
            rw [← e4] at hr
            by_cases e5 : x.hs.length = t.hs.length
            · rw [decide_eq_true e5, Bool.true_and]
              rw [← e5] at hr
              by_cases e6 : x.ent.length = t.ent.length
              · rw [decide_eq_true e6, Bool.true_and]
                rw [← e6] at hr
                by_cases e7 : x.n = t.n
                · rw [decide_eq_true e7]
                  rw [← e7] at hr
                  exact wholeP_row hr
                · rw [decide_eq_false e7]
                  exact wholeP_no7 hr (beq_noT (by omega))
              · rw [decide_eq_false e6, Bool.false_and]
                exact wholeP_no6 hr (beq_noT (by omega))
            · rw [decide_eq_false e5, Bool.false_and]
              exact wholeP_no5 hr (beq_noT (by omega))
          · rw [decide_eq_false e4, Bool.false_and]
            exact wholeP_no4 hr (beq_noS e4)
        · rw [decide_eq_false e3, Bool.false_and]
          exact wholeP_no3 hr (beq_noT e3)
      · rw [decide_eq_false e2, Bool.false_and]
        exact wholeP_no2 hr (beq_noT e2)
    · rw [decide_eq_false e1, Bool.false_and]
      exact wholeP_no1 hr (beq_noT e1)
  · rw [decide_eq_false e0, Bool.false_and]
    exact wholeP_no0 hr (beq_noT e0)
end Msg
end Go.Proofs.YteilkpihddfpeaaGreatDoor

namespace Go.Proofs.YteilkpihddfpeaaGreatDoor
open Go.RowKit Cod
namespace Msg

/-- the j-th element behind y reads as the part x -/
def Elq (w : World) (hi : Nat) (y : Addr) (j : Nat) (x : Part) : Prop :=
  ∃ uh ue up, w.cell? (y.add (j * 8)) = some (.int .i64 x.status) ∧ w.cell? (y.add (j * 8 + 1)) = some (.int .i64 x.size) ∧ w.cell? (y.add (j * 8 + 2)) = some (.int .i64 x.a) ∧ w.cell? (y.add (j * 8 + 3)) = some (.int .i64 x.b) ∧ w.cell? (y.add (j * 8 + 4)) = some (sv x.root) ∧
    w.cell? (y.add (j * 8 + 5)) = some uh ∧ w.cell? (y.add (j * 8 + 6)) = some ue ∧ w.cell? (y.add (j * 8 + 7)) = some up ∧ Lw hi uh ∧ Lw hi ue ∧ Slc w uh x.hs ∧ Slc w ue x.ent ∧ ∃ p q, up = .slice p x.n q
/-- a list of parts, wherever it lies -/
def Pq (w : World) (hi : Nat) (u : Value) (l : List Part) : Prop :=
  ∃ (a : Option Addr) (cap : Nat), u = .slice a l.length cap ∧ ∀ j x, l[j]? = some x → ∃ y : Addr, a = some y ∧ y.block < hi ∧ Elq w hi y j x
theorem Lw.mono {hi hi' : Nat} {u : Value} (h : Lw hi u) (hb : hi ≤ hi') : Lw hi' u := fun x n c e h0 => Nat.lt_of_lt_of_le (h x n c e h0) hb
theorem Elq.bl {w w' : World} {hi j : Nat} {y : Addr} {x : Part} (h : Elq w hi y j x) (hy : y.block < hi) (hb : Below hi w w') : Elq w' hi y j x := by
  obtain ⟨uh, ue, up, c0, c1, c2, c3, c4, c5, c6, c7, n1, n2, s1, s2, s3⟩ := h
  have key : ∀ (o : Nat) z, w.cell? (y.add o) = some z → w'.cell? (y.add o) = some z := fun o z e => (hb.cell (p := y.add o) (by rw [add_block]; exact hy)).trans e
  exact ⟨uh, ue, up, key _ _ c0, key _ _ c1, key _ _ c2, key _ _ c3, key _ _ c4, key _ _ c5, key _ _ c6, key _ _ c7, n1, n2, n1.slc s1 hb, n2.slc s2 hb, s3⟩
theorem Pq.bl {w w' : World} {hi : Nat} {u : Value} {l : List Part} (h : Pq w hi u l) (hb : Below hi w w') : Pq w' hi u l := by
  obtain ⟨a, cap, rfl, h⟩ := h
  refine ⟨a, cap, rfl, fun j x hx => ?_⟩
  obtain ⟨y, e, hy, he⟩ := h j x hx
  exact ⟨y, e, hy, he.bl hy hb⟩
theorem Pq.mono {w : World} {hi hi' : Nat} {u : Value} {l : List Part} (h : Pq w hi u l) (hb : hi ≤ hi') : Pq w hi' u l := by
  obtain ⟨a, cap, rfl, h⟩ := h
  refine ⟨a, cap, rfl, fun j x hx => ?_⟩
  obtain ⟨y, e, hy, uh, ue, up, c0, c1, c2, c3, c4, c5, c6, c7, n1, n2, s⟩ := h j x hx
  exact ⟨y, e, by omega, uh, ue, up, c0, c1, c2, c3, c4, c5, c6, c7, n1.mono hb, n2.mono hb, s⟩
theorem Pq.shape {w : World} {hi : Nat} {u : Value} {l : List Part} (h : Pq w hi u l) : ∃ p q, u = .slice p l.length q := by
  obtain ⟨a, cap, e, _⟩ := h
  exact ⟨a, cap, e⟩
set_option maxRecDepth 100000 in
set_option maxHeartbeats 4000000 in
theorem layParts_no {w : World} {base b c : Nat} {v : Value} {s : LS} {p : Option Addr} {q n : Nat} (h : Ly w base b c v s) (hl : wi (n : Int) 1 64 = false) :
    Calls Tryz.prog 89 #[.pointer (some ⟨c, 0, none⟩), .slice p n q] w fun e w' => e = .returned (.slice p n q) ∧ Lo w base b c v (s.1, true) w' := by
  have i1 := within_any (n : Int) 1 64 w
  have i2 := takes_any false w h
  rw [hl] at i1
  clear h
  go_enter Tryz.func89, Tryz.ntmps89
  go_wp2_with (first
    | (go_at_call 15; refine i1.mono ?_; rintro e w' ⟨rfl, hw'⟩; rw [hw']; clear hw' w')
    | (go_at_call 31; refine i2.mono ?_; rintro e w1 ⟨rfl, h1, h2⟩; have H1 := hid (Lo.no h2 h1); clear h1 h2))
  go_ret
  exact ⟨rfl, H1.out⟩
set_option maxRecDepth 100000 in
set_option maxHeartbeats 4000000 in
theorem layParts_ok {w : World} {base b c : Nat} {v : Value} {s : LS} {u : Value} {l : List Part} (h : Ly w base b c v s) (hu : Pq w base u l) (hl : wi (l.length : Int) 1 64 = true) (hg : ∀ x ∈ l, PFit x) (hm : Sm s 29000000000000) :
    Calls Tryz.prog 89 #[.pointer (some ⟨c, 0, none⟩), u] w fun e w' => e = .returned u ∧ Lo w base b c v (lParts l s) w' := by
  have i1 := within_any (l.length : Int) 1 64 w
  have i2 := takes_any true w h
  rw [hl] at i1
  have hlen := wi_iff.1 hl
  rw [lParts, if_pos hl, lNum, lif_yes rfl]
  have HA := hid hu
  obtain ⟨pa, cap, rfl, g4⟩ := hu
  have h9 : (digs (l.length : Int).toNat).length ≤ 9 := digs_len9 (by omega)
  have HM := hid hm
  have HG := hid hg
  have HY := hid h
  have H9 := hid h9
  have hb1 : -9223372036854775808 ≤ (l.length : Int) := by omega
  have hb2 : (l.length : Int) ≤ 9223372036854775807 := by omega
  obtain ⟨s1, hs1⟩ : ∃ s1, Hid ((s.1.put (numErr (l.length : Int)) (digs (l.length : Int).toNat), s.2) = s1) := ⟨_, rfl⟩
  rw [hs1.out]
  clear h hm hg hl g4 h9
  go_enter Tryz.func89, Tryz.ntmps89
  go_wp2_with (first
    | (go_at_call 15; refine i1.mono ?_; rintro e w' ⟨rfl, hw'⟩; rw [hw']; clear hw' w')
    | (go_at_call 31; refine i2.mono ?_; rintro e w1 ⟨rfl, h1, h2⟩; have h1 := h1.yes; have d0 := h1.c0; have i3 := wNum_any base b v s.1 (l.length : Int) hb1 hb2 w1 h1.wri h1.base (fun bs e => by have := HM.out bs e; omega); have H1 := hid h1; have H2 := hid h2; clear h1 h2)
    | (go_at_call 94; refine i3.mono ?_; intro e w2 p; obtain ⟨hr, hlo⟩ := Lo.mk' H2.out H1.out p; subst hr; rw [hs1.out] at hlo; have HL := hid hlo; clear hlo p))
  have HS : Hid (Sm s1 29000000000009) := by
    have := HM.out.lif true (numErr (l.length : Int)) (digs (l.length : Int).toNat)
    rw [lif_yes rfl, hs1.out] at this
    exact this.mono (by have := H9.out; omega)
  clear i1 i2 i3 d0
  go_loopw [22] (fun i w' => ∃ k : Nat, k ≤ l.length ∧ i = .int .i64 k ∧ Hid (Lo w base b c v ((l.take k).foldl (fun s x => lPart x s) s1) w')) (fun i _ => l.length - (intOf i).toNat)
  case atStart => exact ⟨0, by omega, rfl, HL⟩
  case round =>
    obtain ⟨k, hk, rfl, hL⟩ := hrel
    by_cases hlt : k < l.length
    · have hlt' : (k : Int) < (l.length : Int) := by omega
      obtain ⟨v', y1, y2, y3⟩ := hL.out
      have bl : Below base w wr := Lo.bl HY.out y2
      obtain ⟨pa', cap', he, a4⟩ := HA.out.bl bl
      injection he with he1 he2 he3
      obtain ⟨y, e1, hy, uh, ue, up, c0, c1, c2, c3, c4, c5, c6, c7, n1, n2, r1, r2, r3⟩ := a4 k l[k] (List.getElem?_eq_getElem hlt)
      rw [← he1] at e1
      subst e1
      clear he1 he2 he3
      rw [← Go.Deep.add_add] at c1 c2 c3 c4 c5 c6 c7
      replace c1 : wr.cell? ⟨(y.add (k * 8)).block, (y.add (k * 8)).off + 1, none⟩ = _ := c1
      replace c2 : wr.cell? ⟨(y.add (k * 8)).block, (y.add (k * 8)).off + 2, none⟩ = _ := c2
      replace c3 : wr.cell? ⟨(y.add (k * 8)).block, (y.add (k * 8)).off + 3, none⟩ = _ := c3
      replace c4 : wr.cell? ⟨(y.add (k * 8)).block, (y.add (k * 8)).off + 4, none⟩ = _ := c4
      replace c5 : wr.cell? ⟨(y.add (k * 8)).block, (y.add (k * 8)).off + 5, none⟩ = _ := c5
      replace c6 : wr.cell? ⟨(y.add (k * 8)).block, (y.add (k * 8)).off + 6, none⟩ = _ := c6
      replace c7 : wr.cell? ⟨(y.add (k * 8)).block, (y.add (k * 8)).off + 7, none⟩ = _ := c7
      have G := HG.out l[k] (List.getElem_mem hlt)
      have hS0 := sm_partsA (l.take k) (fun x hx => HG.out x (List.mem_of_mem_take hx)) HS.out
      have hS := hS0.mono (k := 140500000000000) (by rw [List.length_take, Nat.min_eq_left hk]; omega)
      have hsn := parts_snoc l k hlt s1
      obtain ⟨p1, q1, rfl, _⟩ := id r1
      obtain ⟨p2, q2, rfl, _⟩ := id r2
      obtain ⟨p3, q3, rfl⟩ := id r3
      generalize l[k] = x at *
      have bA := ((Below.refl wr.heap.size wr).alloc (Nat.le_refl _) (.cells #[.int .i64 x.status, .int .i64 x.size, .int .i64 x.a, .int .i64 x.b, .string ⟨x.root.toArray⟩, .slice p1 x.hs.length q1, .slice p2 x.ent.length q2, .slice p3 x.n q3] 26)).alloc (by rw [size_alloc]; omega) (.cells (rpArr (lay c) x (.slice p1 x.hs.length q1) (.slice p2 x.ent.length q2) (.slice p3 x.n q3) Part.zero (.slice none 0 0) (.slice none 0 0) (.slice none 0 0)) 76)
      have hP := pa_new (d := wr.heap.size + 1) y1 ⟨n1, n2, r1, r2, ⟨p3, q3, rfl⟩⟩ bA (heap_alloc_at _ _ _ (size_alloc _ _)) (by omega)
      have i4 := partL_any hP G hS
      have N : Hid (∀ w4 v2 w5, Keep (QSet b c (wr.heap.size + 1) v') ((wr.alloc (.cells #[.int .i64 x.status, .int .i64 x.size, .int .i64 x.a, .int .i64 x.b, .string ⟨x.root.toArray⟩, .slice p1 x.hs.length q1, .slice p2 x.ent.length q2, .slice p3 x.n q3] 26)).alloc (.cells (rpArr (lay c) x (.slice p1 x.hs.length q1) (.slice p2 x.ent.length q2) (.slice p3 x.n q3) Part.zero (.slice none 0 0) (.slice none 0 0) (.slice none 0 0)) 76)) w4 → From ((wr.alloc (.cells #[.int .i64 x.status, .int .i64 x.size, .int .i64 x.a, .int .i64 x.b, .string ⟨x.root.toArray⟩, .slice p1 x.hs.length q1, .slice p2 x.ent.length q2, .slice p3 x.n q3] 26)).alloc (.cells (rpArr (lay c) x (.slice p1 x.hs.length q1) (.slice p2 x.ent.length q2) (.slice p3 x.n q3) Part.zero (.slice none 0 0) (.slice none 0 0) (.slice none 0 0)) 76)) v' v2 → Ly w5 base b c v2 ((pS x ((l.take k).foldl (fun s x => lPart x s) s1)).1, (pS x ((l.take k).foldl (fun s x => lPart x s) s1)).2 || !wholeP x (pT x)) → But c w4.drew w5 → Lo w base b c v ((l.take (k + 1)).foldl (fun s x => lPart x s) s1) w5) := fun w4 v2 w5 e1 e2 e3 e4 => by
        rw [hsn, lPart_eq]
        exact Lo.step y2 y3 (lo_end bA (by omega) e1 e2 e3 e4)
      simp only [lay, rpArr, Part.zero, sv] at i4 N
      obtain ⟨r, hr⟩ : ∃ r, Hid (wholeP x (pT x) = r) := ⟨_, rfl⟩
      rw [hr.out] at N
      clear y1 y2 y3 bl a4 r1 r2 hS hS0 hsn bA G hP
      simp only [sv] at c4
      go_wp2_with (first
        | (go_at_call 98; refine i4.mono ?_; rintro e w4 ⟨rfl, v2, th, te, tp, j1, j2, j3⟩; have i5 := wholeP_anyT j1; rw [hr.out] at i5; have i6 := takes_any r w4.drew j1.ly.drew; have J2 := hid j2; have J3 := hid j3; clear j1 j2 j3)
        | (go_at_call 32; refine i5.mono ?_; rintro e w5 ⟨rfl, rfl⟩)
        | (go_at_call 31; refine i6.mono ?_; rintro e w6 ⟨rfl, j4, j5⟩; have N1 := hid (N.out _ _ _ J2.out J3.out j4 j5); clear j4 j5))
      exact ⟨⟨k + 1, by omega, by go_num, N1⟩, by simp [intOf]; omega⟩
    · obtain rfl : k = l.length := by omega
      have hL2 := hL.out
      rw [List.take_length] at hL2
      have HL2 := hid hL2
      clear hL2
      go_wp2
      go_ret
      exact ⟨rfl, HL2.out⟩
theorem layParts_any {w : World} {base b c : Nat} {v : Value} {s : LS} {u : Value} {l : List Part} (h : Ly w base b c v s) (hu : Pq w base u l) (hg : ∀ x ∈ l, PFit x) (hm : Sm s 29000000000000) :
    Calls Tryz.prog 89 #[.pointer (some ⟨c, 0, none⟩), u] w fun e w' => e = .returned u ∧ Lo w base b c v (lParts l s) w' := by
  cases hl : wi (l.length : Int) 1 64 with
  | true => exact layParts_ok h hu hl hg hm
  | false =>
    obtain ⟨p, q, rfl⟩ := hu.shape
    rw [lParts, if_neg (by rw [hl]; exact Bool.false_ne_true)]
    exact layParts_no h hl
end Msg
end Go.Proofs.YteilkpihddfpeaaGreatDoor
