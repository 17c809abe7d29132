import Derived.Test.YteilkpihddfpeaaGreatDoorPkMWF0
import Derived.Test.YteilkpihddfpeaaGreatDoorPkMWF1
import Derived.Test.YteilkpihddfpeaaGreatDoorPkMWF2
import Derived.Test.YteilkpihddfpeaaGreatDoorPkMWF3
import Derived.Test.YteilkpihddfpeaaGreatDoorPkMWF4
import Derived.Test.YteilkpihddfpeaaGreatDoorPkMWF5
import Derived.Test.YteilkpihddfpeaaGreatDoorPkMWF6
import Derived.Test.YteilkpihddfpeaaGreatDoorPkMW7
namespace Go.Proofs.YteilkpihddfpeaaGreatDoor
open Go.RowKit Cod
namespace Msg

theorem beq_no {a b : Int} (h : ¬ a = b) : (a == b) = false := by simp [h]
/-- whole of a request, whatever has come across -/
theorem whole_anyQ {w : World} {base b c d : Nat} {v : Value} {s : LS} {x : Ask} {ul ue ua : Value} {t : Ask} {tl te ta : Value} (h : Qa w base b c d v s x ul ue ua t tl te ta) :
    Calls Tryz.prog 36 #[.pointer (some ⟨d, 0, none⟩)] w fun e w' => e = .returned (.bool (whole x t)) ∧ w' = w.drew := by
  obtain ⟨p1, q1, rfl, _⟩ := id h.s1
  obtain ⟨p2, q2, rfl, _⟩ := id h.s2
  obtain ⟨p3, q3, rfl⟩ := id h.s3
  obtain ⟨p4, q4, rfl⟩ := id h.t1
  obtain ⟨p5, q5, rfl⟩ := id h.t2
  obtain ⟨p6, q6, rfl⟩ := id h.t3
  have hr := h.row
  unfold aqArr at hr
  unfold whole
  clear h
  by_cases e1 : x.kind = t.kind
  · rw [decide_eq_true e1, Bool.true_and]
    rw [← e1] at hr
    by_cases e2 : x.a = t.a
    · rw [decide_eq_true e2, Bool.true_and]
      rw [← e2] at hr
      by_cases e3 : x.b = t.b
      · rw [decide_eq_true e3, Bool.true_and]
        rw [← e3] at hr
        by_cases e4 : x.size = t.size
        · rw [decide_eq_true e4, Bool.true_and]
          rw [← e4] at hr
          by_cases e5 : x.list.length = t.list.length
          · rw [decide_eq_true e5, Bool.true_and]
            rw [← e5] at hr
            by_cases e6 : x.ent.length = t.ent.length
            · rw [decide_eq_true e6, Bool.true_and]
              rw [← e6] at hr
              by_cases e7 : x.n = t.n
              · rw [decide_eq_true e7]
                rw [← e7] at hr
                exact whole_row hr
              · rw [decide_eq_false e7]
                exact whole_no6 hr (beq_no (by omega))
            · rw [decide_eq_false e6, Bool.false_and]
              exact whole_no5 hr (beq_no (by omega))
          · rw [decide_eq_false e5, Bool.false_and]
            exact whole_no4 hr (beq_no (by omega))
        · rw [decide_eq_false e4, Bool.false_and]
          exact whole_no3 hr (beq_no e4)
      · rw [decide_eq_false e3, Bool.false_and]
        exact whole_no2 hr (beq_no e3)
    · rw [decide_eq_false e2, Bool.false_and]
      exact whole_no1 hr (beq_no e2)
  · rw [decide_eq_false e1, Bool.false_and]
    exact whole_no0 hr (beq_no e1)
end Msg
end Go.Proofs.YteilkpihddfpeaaGreatDoor

namespace Go.Proofs.YteilkpihddfpeaaGreatDoor
open Go.RowKit Cod
namespace Msg

/-- something was laid down, the row is as it was -/
theorem Qa.lo {w w2 : World} {base b c d : Nat} {v : Value} {s s' : LS} {x : Ask} {ul ue ua : Value} {t : Ask} {tl te ta : Value} (h : Qa w base b c d v s x ul ue ua t tl te ta) (hl : Lo w base b c v s' w2) :
    FPost w base b c d v s' x ul ue ua t w2 := by
  have hrow := h.row2 hl
  obtain ⟨v', h1, h2, h3⟩ := hl
  have hd := h.lt
  have hdn : ¬ LSet b c v' d := fun e => by
    rcases e with e | e | e
    · exact h.dn (.inl e)
    · exact h.dn (.inr (.inl e))
    · rcases h3 d e with g | g
      · exact h.dn (.inr (.inr g))
      · omega
  have kk : Keep (QSet b c d v) w w2 := h2.mono (T := QSet b c d v) fun _ _ e => .inr e
  have bl : Below base w w2 := kk.below h.ly.base fun k hk e => by
    rcases e with e | e
    · have := h.ge; omega
    · have := (h.ly.ge' k e).1; omega
  exact ⟨v', tl, te, ta, ⟨h1, hrow, hdn, h.ge, h.l1, h.l2, h.l1.slcI h.s1 bl, h.l2.slc h.s2 bl, h.s3, h.t1, h.t2, h.t3⟩, kk, h3⟩
set_option maxRecDepth 100000 in
set_option maxHeartbeats 4000000 in
theorem payL_no {w : World} {base b c d : Nat} {v : Value} {s : LS} {x : Ask} {ul ue ua : Value} (h : Qa w base b c d v s x ul ue ua Ask.zero (.slice none 0 0) (.slice none 0 0) (.slice none 0 0)) {m0 : Nat} (hm : Sm s m0) (h58 : m0 ≤ 58000000000000) (lo hi : Int) (hw : wi x.kind lo hi = false) :
    Calls Tryz.prog 35 #[.pointer (some ⟨d, 0, none⟩), .int .i64 lo, .int .i64 hi] w fun e w' => e = .returned (.tuple #[]) ∧ FPost w base b c d v (s.1, true) x ul ue ua Ask.zero w' := by
  have c0 : w.cell? ⟨d, 0, none⟩ = some (lay c) := by rw [cell_of_row _ _ _ _ _ _ h.row]; rfl
  have c4 : w.cell? ⟨d, 1, none⟩ = some (.int .i64 x.kind) := by rw [cell_of_row _ _ _ _ _ _ h.row]; rfl
  have i1 := layMark_any x.kind lo hi w.drew h.ly.drew (hm.mono (by omega))
  rw [hw, if_neg Bool.false_ne_true, show lMark x.kind lo hi s = (s.1, true) from by rw [lMark, hw]; rfl] at i1
  rw [lay] at c0
  have mm := m_laying_mark ⟨c, 0, none⟩
  have HQ := hid h
  clear h hm h58 hw
  obtain ⟨K, HK⟩ : ∃ K, Hid (x.kind = K) := ⟨_, rfl⟩
  rw [HK.out] at i1 c4
  go_enter Tryz.func35, Tryz.ntmps35
  go_wp2
  go_region_held3 (fun w' => w'.cell? ⟨d, 0, none⟩ = some (.iface 72 (.pointer (some ⟨c, 0, none⟩))) ∧ w'.cell? ⟨d, 1, none⟩ = some (.int .i64 K)) (first | exact ⟨c0, c4⟩ | exact S2) (first | (go_at_call 88; (with_reducible refine i1.mono ?_); rintro e w2 ⟨rfl, hl⟩; have hl := hl.drew; have hrow := HQ.out.row2 hl; have g0 : w2.frozen? ⟨d, 8, none⟩ = false := frozen_of_row _ _ _ _ _ hrow; have e0 : w2.cell? ⟨d, 8, none⟩ = some (.int .i64 0) := (by rw [cell_of_row _ _ _ _ _ _ hrow]; rfl); have S2 : w2.cell? ⟨d, 0, none⟩ = some (lay c) ∧ w2.cell? ⟨d, 1, none⟩ = some (.int .i64 K) := ⟨by rw [cell_of_row _ _ _ _ _ _ hrow]; rfl, by rw [cell_of_row _ _ _ _ _ _ hrow, aqArr, HK.out]; rfl⟩; rw [lay] at S2; have HL := hid hl; clear hl hrow))
  clear S2
  go_wp2
  refine bodyPost_ret (results_none rfl _ _ _) rfl ?_
  exact ⟨rfl, HQ.out.lo HL.out⟩
end Msg
end Go.Proofs.YteilkpihddfpeaaGreatDoor

namespace Go.Proofs.YteilkpihddfpeaaGreatDoor
open Go.RowKit Cod
namespace Msg

/-- what is handed in, laid out as the walk finds it -/
theorem Ak.qa {w : World} {base b c : Nat} {v : Value} {s : LS} {x : Ask} {p1 p2 p3 : Option Addr} {q1 q2 q3 : Nat} (h : Ly w base b c v s) (hx : Ak w base x (.slice p1 x.list.length q1) (.slice p2 x.ent.length q2) (.slice p3 x.n q3)) (o1 o2 : Obj)
    (ho2 : Obj.cells (aqArr (lay c) x (.slice p1 x.list.length q1) (.slice p2 x.ent.length q2) (.slice p3 x.n q3) Ask.zero (.slice none 0 0) (.slice none 0 0) (.slice none 0 0)) 85 = o2) :
    Qa ((w.alloc o1).alloc o2) base b c (w.heap.size + 1) v s x (.slice p1 x.list.length q1) (.slice p2 x.ent.length q2) (.slice p3 x.n q3) Ask.zero (.slice none 0 0) (.slice none 0 0) (.slice none 0 0) := by
  have z1 := size_alloc w o1
  have bW : Below w.heap.size w ((w.alloc o1).alloc o2) := ((Below.refl _ _).alloc (Nat.le_refl _) _).alloc (by omega) _
  have hbs := h.base
  exact ⟨h.below bW, by rw [← ho2]; exact heap_alloc_at _ _ _ z1, fun e => by have := (h.ge' _ e).2; omega, by omega, hx.l1, hx.l2, hx.l1.slcI hx.s1 (bW.mono hbs), hx.l2.slc hx.s2 (bW.mono hbs), hx.s3, ⟨_, _, rfl⟩, ⟨_, _, rfl⟩, ⟨_, _, rfl⟩⟩
set_option maxRecDepth 100000 in
set_option maxHeartbeats 4000000 in
/-- request, from what payload does -/
theorem reqL_core {w : World} {base b c : Nat} {v : Value} {s s2 : LS} {x t : Ask} {p1 p2 p3 : Option Addr} {q1 q2 q3 : Nat} (h : Ly w base b c v s) (lo hi : Int)
    (i1 : Calls Tryz.prog 35 #[.pointer (some ⟨w.heap.size + 1, 0, none⟩), .int .i64 lo, .int .i64 hi] ((w.alloc (Obj.cells #[.int .i64 x.kind, .int .i64 x.a, .int .i64 x.b, .int .i64 x.size, .slice p1 x.list.length q1, .slice p2 x.ent.length q2, .slice p3 x.n q3] 40)).alloc (Obj.cells (aqArr (lay c) x (.slice p1 x.list.length q1) (.slice p2 x.ent.length q2) (.slice p3 x.n q3) Ask.zero (.slice none 0 0) (.slice none 0 0) (.slice none 0 0)) 85)) fun e w' => e = .returned (.tuple #[]) ∧ FPost ((w.alloc (Obj.cells #[.int .i64 x.kind, .int .i64 x.a, .int .i64 x.b, .int .i64 x.size, .slice p1 x.list.length q1, .slice p2 x.ent.length q2, .slice p3 x.n q3] 40)).alloc (Obj.cells (aqArr (lay c) x (.slice p1 x.list.length q1) (.slice p2 x.ent.length q2) (.slice p3 x.n q3) Ask.zero (.slice none 0 0) (.slice none 0 0) (.slice none 0 0)) 85)) base b c (w.heap.size + 1) v s2 x (.slice p1 x.list.length q1) (.slice p2 x.ent.length q2) (.slice p3 x.n q3) t w') :
    Calls Tryz.prog 24 #[.pointer (some ⟨c, 0, none⟩), akV x (.slice p1 x.list.length q1) (.slice p2 x.ent.length q2) (.slice p3 x.n q3), .int .i64 lo, .int .i64 hi] w fun e w' => e = .returned (.tuple #[]) ∧ Lo w base b c v (s2.1, s2.2 || !whole x t) w' := by
  have HY := hid h
  simp only [lay, aqArr, Ask.zero] at i1
  rw [akV]
  obtain ⟨r, hr⟩ : ∃ r, Hid (whole x t = r) := ⟨_, rfl⟩
  rw [hr.out]
  clear h
  go_enter Tryz.func24, Tryz.ntmps24
  go_wp2_with (first
    | (go_at_call 35; refine i1.mono ?_; rintro e w2 ⟨rfl, v', tl, te, ta, g1, g2, g3⟩; have i2 := whole_anyQ g1; rw [hr.out] at i2; have i3 := takes_any r w2.drew g1.ly.drew; have G1 := hid g1; have G2 := hid g2; have G3 := hid g3; clear g1 g2 g3)
    | (go_at_call 36; refine i2.mono ?_; rintro e w3 ⟨rfl, rfl⟩)
    | (go_at_call 31; refine i3.mono ?_; rintro e w4 ⟨rfl, g4, g5⟩; have G4 := hid g4; have G5 := hid g5; clear g4 g5))
  go_end0
  refine ⟨rfl, v', G4.out, ?_, fun k hk => ?_⟩
  · have k1 : Keep (LSet b c v) w w2 := (Keep.ofBelow (((Below.refl _ _).alloc (Nat.le_refl _) _).alloc (by rw [size_alloc]; omega) _) : Keep (LSet b c v) w _).trans G2.out fun j hj e => by
      rcases e with e | e
      · omega
      · exact e
    exact (k1.drew).trans (T := fun k => k = c) (Keep.ofBut G5.out rfl) fun j _ e => .inl e
  · rcases G3.out k hk with g | g
    · exact .inl g
    · right
      rw [size_alloc, size_alloc] at g
      omega
/-- request, whatever is handed in -/
theorem reqL_any {w : World} {base b c : Nat} {v : Value} {s : LS} {x : Ask} {ul ue ua : Value} (h : Ly w base b c v s) (hx : Ak w base x ul ue ua) (hf : Fit x) {m0 K0 M : Nat} (hm : Sm s m0) (h58 : m0 ≤ 58000000000000) (hK0 : 68719476736 ≤ K0) (hM : m0 + 1 + ((flds x.kind.toNat).length - 1) * K0 ≤ M) (lo hi : Int) (h1 : 1 ≤ lo) (h2 : hi ≤ 12)
    (da : LS → LS) (hA : wi x.kind lo hi = true → ∀ d, ∀ g ∈ flds x.kind.toNat, FC w M base b c d x ul ue ua da g) (hd : .asks ∈ flds x.kind.toNat → ∀ s m, Sm s m → Sm (da s) (m + K0)) :
    Calls Tryz.prog 24 #[.pointer (some ⟨c, 0, none⟩), akV x ul ue ua, .int .i64 lo, .int .i64 hi] w fun e w' => e = .returned (.tuple #[]) ∧ Lo w base b c v (lReq x da lo hi s) w' := by
  obtain ⟨p1, q1, rfl, _⟩ := id hx.s1
  obtain ⟨p2, q2, rfl, _⟩ := id hx.s2
  obtain ⟨p3, q3, rfl⟩ := id hx.s3
  have hQ := Ak.qa h hx (Obj.cells #[.int .i64 x.kind, .int .i64 x.a, .int .i64 x.b, .int .i64 x.size, .slice p1 x.list.length q1, .slice p2 x.ent.length q2, .slice p3 x.n q3] 40) _ rfl
  cases hw : wi x.kind lo hi with
  | true =>
    have bW : Below w.heap.size w ((w.alloc (Obj.cells #[.int .i64 x.kind, .int .i64 x.a, .int .i64 x.b, .int .i64 x.size, .slice p1 x.list.length q1, .slice p2 x.ent.length q2, .slice p3 x.n q3] 40)).alloc (Obj.cells (aqArr (lay c) x (.slice p1 x.list.length q1) (.slice p2 x.ent.length q2) (.slice p3 x.n q3) Ask.zero (.slice none 0 0) (.slice none 0 0) (.slice none 0 0)) 85)) := ((Below.refl _ _).alloc (Nat.le_refl _) _).alloc (by rw [size_alloc]; omega) _
    have i1 := payL_yes hQ hf hm h58 hK0 hM lo hi hw h1 h2 da (fun g hg => (hA hw _ g hg).bl (bW.mono h.base)) hd
    have i2 := reqL_core h lo hi i1
    rwa [lReq, if_pos hw]
  | false =>
    have i1 := payL_no hQ hm h58 lo hi hw
    have i2 := reqL_core h lo hi i1
    rw [Bool.true_or] at i2
    rwa [lReq, if_neg (by rw [hw]; exact Bool.false_ne_true)]
end Msg
end Go.Proofs.YteilkpihddfpeaaGreatDoor
