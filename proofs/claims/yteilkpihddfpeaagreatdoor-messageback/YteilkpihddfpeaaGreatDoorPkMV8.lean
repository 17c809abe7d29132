import Derived.Test.YteilkpihddfpeaaGreatDoorPkMV7
import Derived.Test.YteilkpihddfpeaaGreatDoorPkMT2
import Derived.Test.YteilkpihddfpeaaGreatDoorPkMW7
namespace Go.Proofs.YteilkpihddfpeaaGreatDoor
open Go.RowKit Cod
namespace Msg

set_option maxRecDepth 100000 in
set_option maxHeartbeats 2000000 in
theorem g_parts {w : World} {base lo0 b c d : Nat} {v : Value} {s : LS} {x : Part} {uh ue up : Value} {t : Part} {th te tp : Value} {l : List Part} (h : Pa w base b c d v s x uh ue up t th te tp) (hu : Ps w lo0 base up l) (hn : x.n = l.length) (hl : wi (l.length : Int) 1 64 = true) (hg : ∀ x ∈ l, Gp x) (hm : Sm s 29000000000000) :
    Calls Tryz.prog 48 #[.pointer (some ⟨d, 0, none⟩)] w fun e w' => e = .returned (.tuple #[]) ∧ GPost w base b c d v (lFr x (lParts l) .parts s) x uh ue up (setR x .parts t) w' := by
  have i1 := layParts_yes h.ly.drew (hu.keep (S := fun _ => False) (Keep.refl _ w).drew (fun _ _ _ e => e)) hl hg hm
  obtain ⟨p1, q1, rfl⟩ := hu.shape
  have c0 : w.cell? ⟨d, 0, none⟩ = some (lay c) := by rw [cell_of_row _ _ _ _ _ _ h.row]; rfl
  have c4 : w.cell? ⟨d, 8, none⟩ = some (.slice p1 l.length q1) := by rw [cell_of_row _ _ _ _ _ _ h.row]; rfl
  rw [lay] at c0
  have mm := m_laying_parts ⟨c, 0, none⟩
  have HQ := hid h
  have HN := hid hn
  clear h hm hu hn hg hl
  go_enter Tryz.func48, Tryz.ntmps48
  go_region_held3 (fun w' => w'.cell? ⟨d, 0, none⟩ = some (.iface 72 (.pointer (some ⟨c, 0, none⟩))) ∧ w'.cell? ⟨d, 8, none⟩ = some (.slice p1 l.length q1)) (first | exact ⟨c0, c4⟩ | exact S2 | exact S3) (first | (go_at_call 89; (with_reducible refine i1.mono ?_); rintro e w2 ⟨rfl, hl⟩; have hl := hl.drew; have hrow := HQ.out.row2 hl; have g0 : w2.frozen? ⟨d, 16, none⟩ = false := frozen_of_row _ _ _ _ _ hrow; have e0 : w2.cell? ⟨d, 16, none⟩ = some tp := (by rw [cell_of_row _ _ _ _ _ _ hrow]; rfl); have S2 : w2.cell? ⟨d, 0, none⟩ = some (lay c) ∧ w2.cell? ⟨d, 8, none⟩ = some (.slice p1 l.length q1) := ⟨by rw [cell_of_row _ _ _ _ _ _ hrow]; rfl, by rw [cell_of_row _ _ _ _ _ _ hrow]; rfl⟩; have hrow3 := row_set 16 (.slice p1 l.length q1) hrow rfl; have S3 : (w2.setCell ⟨d, 16, none⟩ (.slice p1 l.length q1)).cell? ⟨d, 0, none⟩ = some (lay c) ∧ (w2.setCell ⟨d, 16, none⟩ (.slice p1 l.length q1)).cell? ⟨d, 8, none⟩ = some (.slice p1 l.length q1) := ⟨by rw [cell_of_row _ _ _ _ _ _ hrow3]; rfl, by rw [cell_of_row _ _ _ _ _ _ hrow3]; rfl⟩; rw [lay] at S2 S3; have HL := hid hl; clear hl hrow hrow3))
  go_end0
  exact ⟨rfl, HQ.out.put HL.out 16 _ _ _ _ _ rfl HQ.out.t1 HQ.out.t2 ⟨p1, q1, by rw [show (setR x .parts t).n = x.n from rfl, HN.out]⟩⟩
/-- a reply that was taken as it should -/
structure Gr (K : Nat) (x : Part) : Prop where
  fit : PFit x
  wi : wi x.status (leastOf (K : Int)) 8 = true
  self : x.status = 0 → setRs x (rflds K) (Part.of 0) = x
  oth : ¬ x.status = 0 → Part.of x.status = x
theorem parts12 {K : Nat} (hK : K ≤ 12) (h : .parts ∈ rflds K) : K = 12 := by
  match K, hK with
  | 0, _ => simp [rflds] at h
  | 1, _ => simp [rflds] at h
  | 2, _ => simp [rflds] at h
  | 3, _ => simp [rflds] at h
  | 4, _ => simp [rflds] at h
  | 5, _ => simp [rflds] at h
  | 6, _ => simp [rflds] at h
  | 7, _ => simp [rflds] at h
  | 8, _ => simp [rflds] at h
  | 9, _ => simp [rflds] at h
  | 10, _ => simp [rflds] at h
  | 11, _ => simp [rflds] at h
  | 12, _ => rfl
theorem payR_yes {w : World} {base lo0 b c d : Nat} {v : Value} {s : LS} {x : Part} {uh ue up : Value} {l : List Part} (h : Pa w base b c d v s x uh ue up Part.zero (.slice none 0 0) (.slice none 0 0) (.slice none 0 0)) (K : Nat) (hK : K ≤ 12) (hg : Gr K x) (hm : Sm s 1000000000000)
    (hu : K = 12 → x.status = 0 → Ps w lo0 base up l ∧ x.n = l.length ∧ wi (l.length : Int) 1 64 = true ∧ ∀ x ∈ l, Gp x) :
    Calls Tryz.prog 30 #[.pointer (some ⟨d, 0, none⟩), .int .i64 (K : Int)] w fun e w' => e = .returned (.tuple #[]) ∧ GPost w base b c d v (lReply (K : Int) x l s) x uh ue up x w' := by
  by_cases h0 : x.status = 0
  · have hK1 : 1 ≤ K := by
      rcases Nat.eq_zero_or_pos K with e | e
      · subst e
        have h2 := hg.wi
        rw [show leastOf ((0 : Nat) : Int) = 1 from rfl, wi_iff] at h2
        omega
      · exact e
    have hi : isDn x.status (leastOf (K : Int)) = true := by rw [isDn, hg.wi, Bool.true_and]; exact decide_eq_true h0
    have hT : lReply (K : Int) x l s = lFrs x (lParts l) (rflds K) (lMark 0 0 8 (lMark (K : Int) (K : Int) (K : Int) s)) := by
      rw [lReply, Int.toNat_natCast, lTail, if_pos hi, hg.self h0, wholeP_self, Bool.not_true, Bool.or_false, h0, least_pos hK1]
    rw [hT]
    have hs := hg.self h0
    have key : ∀ {K0 M : Nat}, 68719476736 ≤ K0 → 1000000000000 + 2 + ((rflds K).length - 1) * K0 ≤ M → (∀ g ∈ rflds K, GC w M base b c d x uh ue up (lParts l) g) → (.parts ∈ rflds K → ∀ s m, Sm s m → Sm (lParts l s) (m + K0)) → _ := fun a1 a2 a3 a4 => payR_done h hg.fit hm (by omega) K hK1 hK h0 a1 a2 (lParts l) a3 a4
    rw [hs] at key
    by_cases h12 : K = 12
    · obtain ⟨u1, u2, u3, u4⟩ := hu h12 h0
      have hfl : rflds K = [.parts] := by rw [h12]; rfl
      refine key (K0 := 27487790694400) (M := 29000000000000) (by omega) (by rw [hfl]; decide) (fun g hgm => ?_) (fun _ s m hs => ?_)
      · rw [hfl, List.mem_singleton] at hgm
        subst hgm
        intro w' v' s' t th te tp hb hQ hS
        exact g_parts hQ (u1.bl hb) u2 u3 u4 hS
      · have hle := (wi_iff.1 u3).2
        rw [lParts, if_pos u3]
        have h9 : (digs (l.length : Int).toNat).length ≤ 9 := digs_len9 (by omega)
        have h5 : Sm (lNum (l.length : Int) s) (m + 9) := (hs.lif _ _ _).mono (by omega)
        have := sm_parts l u4 h5
        exact this.mono (by have : l.length ≤ 64 := (by omega); have := Nat.mul_le_mul_right 343597383680 this; omega)
    · refine key (K0 := 68719476736) (M := 29000000000000) (by omega) (by have := rflds_len K; have : ((rflds K).length - 1) * 68719476736 ≤ 3 * 68719476736 := Nat.mul_le_mul_right _ (by omega); omega) (fun g hgm => gc_six (by omega) hg.fit g (fun e => h12 (parts12 hK (e ▸ hgm)))) (fun e => absurd (parts12 hK e) h12)
  · have hT : lReply (K : Int) x l s = lMark x.status (leastOf (K : Int)) 8 (lMark (K : Int) (K : Int) (K : Int) s) := by
      rw [lReply, lTail, if_neg (by rw [isDn, decide_eq_false h0, Bool.and_false]; exact Bool.false_ne_true), stB, if_pos hg.wi, hg.oth h0, wholeP_self, Bool.not_true, Bool.or_false]
    have := payR_not h hm (by omega) K hg.wi h0
    rw [hg.oth h0] at this
    rw [hT]
    exact this
theorem Ap.bl {w w' : World} {base : Nat} {x : Part} {uh ue up : Value} (h : Ap w base x uh ue up) (hb : Below base w w') : Ap w' base x uh ue up := ⟨h.l1, h.l2, h.l1.slc h.s1 hb, h.l2.slc h.s2 hb, h.s3⟩
theorem Ap.mono {w : World} {base base' : Nat} {x : Part} {uh ue up : Value} (h : Ap w base x uh ue up) (hb : base ≤ base') : Ap w base' x uh ue up :=
  ⟨fun y n c e h0 => Nat.lt_of_lt_of_le (h.l1 y n c e h0) hb, fun y n c e h0 => Nat.lt_of_lt_of_le (h.l2 y n c e h0) hb, h.s1, h.s2, h.s3⟩
set_option maxRecDepth 100000 in
set_option maxHeartbeats 4000000 in
theorem replyL_yes {w : World} {base lo0 b c : Nat} {v : Value} {s : LS} {x : Part} {p1 p2 p3 : Option Addr} {q1 q2 q3 : Nat} {l : List Part} (h : Ly w base b c v s) (hx : Ap w base x (.slice p1 x.hs.length q1) (.slice p2 x.ent.length q2) (.slice p3 x.n q3)) (K : Nat) (hK : K ≤ 12) (hg : Gr K x) (hm : Sm s 1000000000000)
    (hu : K = 12 → x.status = 0 → Ps w lo0 base (.slice p3 x.n q3) l ∧ x.n = l.length ∧ wi (l.length : Int) 1 64 = true ∧ ∀ x ∈ l, Gp x) :
    Calls Tryz.prog 17 #[.pointer (some ⟨c, 0, none⟩), .int .i64 (K : Int), .agg #[.int .i64 x.status, .int .i64 x.size, .int .i64 x.a, .int .i64 x.b, .string ⟨x.root.toArray⟩, .slice p1 x.hs.length q1, .slice p2 x.ent.length q2, .slice p3 x.n q3]] w fun e w' => e = .returned (.tuple #[]) ∧ Lo w base b c v (lReply (K : Int) x l s) w' := by
  have bA := ((Below.refl w.heap.size w).alloc (Nat.le_refl _) (.cells #[.int .i64 x.status, .int .i64 x.size, .int .i64 x.a, .int .i64 x.b, .string ⟨x.root.toArray⟩, .slice p1 x.hs.length q1, .slice p2 x.ent.length q2, .slice p3 x.n q3] 26)).alloc (by rw [size_alloc]; omega) (.cells (rpArr (lay c) x (.slice p1 x.hs.length q1) (.slice p2 x.ent.length q2) (.slice p3 x.n q3) Part.zero (.slice none 0 0) (.slice none 0 0) (.slice none 0 0)) 76)
  have hP := pa_new (d := w.heap.size + 1) h hx bA (heap_alloc_at _ _ _ (size_alloc _ _)) (by omega)
  have i4 := payR_yes (l := l) (lo0 := lo0) hP K hK hg hm (fun e1 e2 => by
    obtain ⟨a1, a2, a3, a4⟩ := hu e1 e2
    exact ⟨a1.bl (bA.mono h.base), a2, a3, a4⟩)
  have N := hid (fun w4 v2 w5 => lo_end (d := w.heap.size + 1) (w2 := w4) (v' := v2) (w4 := w5) (base := base) (b := b) (c := c) (v := v) (s2 := lReply (K : Int) x l s) bA (by omega))
  generalize lReply (K : Int) x l s = s9 at *
  simp only [lay, rpArr, Part.zero, sv] at i4 N
  clear h hx bA hP hu hm hg
  go_enter Tryz.func17, Tryz.ntmps17
  go_wp2_with (first
    | (go_at_call 30; refine i4.mono ?_; rintro e w4 ⟨rfl, v2, th, te, tp, j1, j2, j3⟩; have i5 := wholeP_yes j1; have i6 := takes_any true w4.drew j1.ly.drew; have J2 := hid j2; have J3 := hid j3; clear j1 j2 j3)
    | (go_at_call 32; refine i5.mono ?_; rintro e w5 ⟨rfl, rfl⟩)
    | (go_at_call 31; refine i6.mono ?_; rintro e w6 ⟨rfl, j4, j5⟩; have N1 := hid (N.out _ _ _ J2.out J3.out j4.yes j5); clear j4 j5))
  go_end0
  exact ⟨rfl, N1.out⟩
/-- what was taken whole, and may be handed to EncodeReply -/
structure Rr (w : World) (K : Nat) (x : Part) (l : List Part) (uh ue up : Value) : Prop where
  ak : Ap w w.heap.size x uh ue up
  gr : Gr K x
  ls : K = 12 → x.status = 0 → Ps w 0 w.heap.size up l ∧ x.n = l.length ∧ wi (l.length : Int) 1 64 = true ∧ ∀ x ∈ l, Gp x
set_option maxRecDepth 100000 in
set_option maxHeartbeats 2000000 in
theorem encodeReply_yes {w : World} {K : Nat} {x : Part} {l : List Part} {uh ue up : Value} {p : List UInt8} (T : Lay w) (hK : K ≤ 12) (h : Rr w K x l uh ue up) (hq : lReply (K : Int) x l (.ok [], false) = (.ok p, false)) (hp : p.length ≤ 1048576) :
    Calls Tryz.prog 6 #[.int .i64 (K : Int), rpV x uh ue up] w fun e w' => e = .returned (.tuple #[sv (wrText p), .int .i64 0]) ∧ Below w.heap.size w w' := by
  obtain ⟨p1, q1, rfl, _⟩ := id h.ak.s1
  obtain ⟨p2, q2, rfl, _⟩ := id h.ak.s2
  obtain ⟨p3, q3, rfl⟩ := id h.ak.s3
  have hT := T.lt
  have H := hid h
  have HT := hid T
  have HQ := hid hq
  have hw : wi (K : Int) 0 12 = true := wi_iff.2 ⟨by omega, by omega⟩
  clear h T hq
  rw [rpV, show sv x.root = .string ⟨x.root.toArray⟩ from rfl]
  go_enter Tryz.func6, Tryz.ntmps6
  go_wp2_with (first
    | (go_at_call 15; refine (within_any _ _ _ _).mono ?_; rw [hw]; rintro e w' ⟨rfl, hw'⟩; rw [hw']; clear hw' w')
    | (go_at_call 16; fail))
  obtain ⟨w1, hw1⟩ : ∃ w1, Hid (w.alloc (.cells #[.int .i64 x.status, .int .i64 x.size, .int .i64 x.a, .int .i64 x.b, .string ⟨x.root.toArray⟩, .slice p1 x.hs.length q1, .slice p2 x.ent.length q2, .slice p3 x.n q3] 26) = w1) := ⟨_, rfl⟩
  have b1 : Below w.heap.size w w1 := by rw [← hw1.out]; exact (Below.refl _ _).alloc (Nat.le_refl _) _
  have r1 : w1.heap[w.heap.size]? = some (.cells #[.int .i64 x.status, .int .i64 x.size, .int .i64 x.a, .int .i64 x.b, .string ⟨x.root.toArray⟩, .slice p1 x.hs.length q1, .slice p2 x.ent.length q2, .slice p3 x.n q3] 26 (0, 0)) := by rw [← hw1.out]; exact heap_alloc_new _ _
  have z1 : w1.heap.size = w.heap.size + 1 := by rw [← hw1.out]; exact size_alloc _ _
  rw [hw1.out]
  go_at_call 16
  refine (newWriter_any w1).mono ?_
  rintro e w2 ⟨rfl, n1, n2, n3⟩
  obtain ⟨w3, hw3⟩ : ∃ w3, Hid (w2.alloc (.cells #[.pointer (some ⟨w1.heap.size, 0, none⟩), .bool false] 52) = w3) := ⟨_, rfl⟩
  have b3 : Below w2.heap.size w2 w3 := by rw [← hw3.out]; exact (Below.refl _ _).alloc (Nat.le_refl _) _
  have hr3 : w3.heap[w2.heap.size]? = some (.cells #[.pointer (some ⟨w1.heap.size, 0, none⟩), .bool false] 52 (0, 0)) := by rw [← hw3.out]; exact heap_alloc_new _ _
  have bb : Below w.heap.size w w3 := b1.trans ((n2.mono (by omega)).trans (b3.mono (by have := n2.size; omega)))
  have hY : Ly w3 w1.heap.size w1.heap.size w2.heap.size (.slice none 0 0) (.ok [], false) := ⟨hr3, n1.below b3, by omega, fun e => (by cases e), n2.size⟩
  have r3 : w2.heap[w.heap.size]? = some (.cells #[.int .i64 x.status, .int .i64 x.size, .int .i64 x.a, .int .i64 x.b, .string ⟨x.root.toArray⟩, .slice p1 x.hs.length q1, .slice p2 x.ent.length q2, .slice p3 x.n q3] 26 (0, 0)) := (n2.block _ (by omega)).trans r1
  have c0 : w2.cell? ⟨w.heap.size, 0, none⟩ = some (.int .i64 x.status) := by rw [cell_of_row _ _ _ _ _ _ r3]; rfl
  have c1 : w2.cell? ⟨w.heap.size, 1, none⟩ = some (.int .i64 x.size) := by rw [cell_of_row _ _ _ _ _ _ r3]; rfl
  have c2 : w2.cell? ⟨w.heap.size, 2, none⟩ = some (.int .i64 x.a) := by rw [cell_of_row _ _ _ _ _ _ r3]; rfl
  have c3 : w2.cell? ⟨w.heap.size, 3, none⟩ = some (.int .i64 x.b) := by rw [cell_of_row _ _ _ _ _ _ r3]; rfl
  have c4 : w2.cell? ⟨w.heap.size, 4, none⟩ = some (.string ⟨x.root.toArray⟩) := by rw [cell_of_row _ _ _ _ _ _ r3]; rfl
  have c5 : w2.cell? ⟨w.heap.size, 5, none⟩ = some (.slice p1 x.hs.length q1) := by rw [cell_of_row _ _ _ _ _ _ r3]; rfl
  have c6 : w2.cell? ⟨w.heap.size, 6, none⟩ = some (.slice p2 x.ent.length q2) := by rw [cell_of_row _ _ _ _ _ _ r3]; rfl
  have c7 : w2.cell? ⟨w.heap.size, 7, none⟩ = some (.slice p3 x.n q3) := by rw [cell_of_row _ _ _ _ _ _ r3]; rfl
  have hm0 : Sm (WSt.ok [], false) 1000000000000 := fun bs e => by injection e with e; subst e; simp
  have i1 := replyL_yes (l := l) (lo0 := 0) hY ((H.out.ak.bl bb).mono (by omega : w.heap.size ≤ w1.heap.size)) K hK H.out.gr hm0 (fun e1 e2 => by
    obtain ⟨a1, a2, a3, a4⟩ := H.out.ls e1 e2
    exact ⟨(a1.bl bb).mono (Nat.le_refl _) (by omega), a2, a3, a4⟩)
  rw [HQ.out] at i1
  have HY := hid hY
  have BB := hid bb
  have HT3 : Hid (Lay w3) := HT.out.below bb hT
  have hT1 : 1 ≤ w1.heap.size := by omega
  have hle : w.heap.size ≤ w1.heap.size := by omega
  have hlt2 : w.heap.size < w2.heap.size := by have := n2.size; omega
  have hne2 : ¬ w.heap.size = w2.heap.size := by omega
  clear n1 n2 n3 b1 b3 r1 z1 r3 hr3 hY bb hm0
  rw [← hw3.out] at i1
  go_wp2_with (first
    | (go_at_call 17; refine i1.mono ?_; rintro e w5 ⟨rfl, hlo⟩; rw [hw3.out] at hlo; obtain ⟨v', y1, y2, y3⟩ := hlo; have bl5 := Lo.bl HY.out y2; have i2 := frame_yes y1 (HT3.out.below bl5 hT1) hp; have B5 := hid (BB.out.trans (bl5.mono hle)); clear y1 y2 y3 bl5)
    | (go_at_call 18; refine i2.mono ?_; rintro e w6 ⟨rfl, h6⟩; have B6 := hid (B5.out.trans (h6.mono B5.out.size)); clear h6))
  go_ret2
  exact ⟨rfl, B6.out⟩
end Msg
end Go.Proofs.YteilkpihddfpeaaGreatDoor

namespace Go.Proofs.YteilkpihddfpeaaGreatDoor
open Go.RowKit Cod
namespace Msg

theorem Ra.tk' {w w2 : World} {B b c d : Nat} {p : PT} {tl te ta : Value} (h : Ra w B b c d p tl te ta) (hk : Keep (BC b c) w w2) {s : TS} (ht : Tk w2 b c s) : Ra w2 B b c d (p.1, s) tl te ta :=
  ⟨ht, h.row2 hk, h.db, h.dc, h.hb, h.hc, h.hd, (h.o1 hk).1, (h.o1 hk).2, (h.o2 hk).1, (h.o2 hk).2, h.o3 hk, h.sn⟩
theorem Ra.below {w w2 : World} {B b c d : Nat} {p : PT} {tl te ta : Value} (h : Ra w B b c d p tl te ta) (hb : Below w.heap.size w w2) : Ra w2 B b c d p tl te ta :=
  h.tk' (Keep.ofBelow hb) (h.tk.below hb)
theorem bc_d {w w2 : World} {b c d : Nat} (h : Keep (BC b c) w w2) : Keep (DSet b c d) w w2 := h.mono fun k _ e => by
  rcases e with e | e
  · exact .inl e
  · exact .inr (.inl e)
theorem RPost.step {w w1 w2 : World} {B b c d : Nat} {p : PT} (k : Keep (DSet b c d) w w1) (h : RPost w1 B b c d p w2) : RPost w B b c d p w2 := by
  obtain ⟨tl, te, ta, h1, h2⟩ := h
  exact ⟨tl, te, ta, h1, k.trans h2 fun _ _ e => e⟩
/-- a field, whatever it is -/
def RC (B b c d : Nat) (da : TS → List Ask × TS) (g : Fq) : Prop :=
  ∀ (w : World) (p : PT) (tl te ta : Value), Ra w B b c d p tl te ta → B ≤ w.heap.size →
    Calls Tryz.prog (fnum g) #[.pointer (some ⟨d, 0, none⟩)] w fun e w' => e = .returned (.tuple #[]) ∧ RPost w B b c d (tFq da g p) w'
theorem rc_six {B b c d : Nat} {da : TS → List Ask × TS} (g : Fq) (hg : g ≠ .asks) : RC B b c d da g := fun w p tl te ta h hB => by
  cases g with
  | a => exact r_a h hB da
  | b => exact r_b h hB da
  | size => exact r_size h hB da
  | indices => exact r_indices h hB da
  | heads => exact r_heads h hB da
  | asks => exact absurd rfl hg
  | entries => exact r_entries h hB da
theorem tFlds_snoc (da : TS → List Ask × TS) (fs : List Fq) (k : Nat) (hk : k < fs.length) (p : PT) : tFlds da (fs.take (k + 1)) p = tFq da fs[k] (tFlds da (fs.take k) p) := by
  rw [tFlds, List.take_add_one, List.getElem?_eq_getElem hk, List.foldl_append]; rfl
/-- while the fields are taken -/
structure Tl (w4 w' : World) (B b c d g : Nat) (k : Nat) (fs : List Fq) (p : PT) (da : TS → List Ask × TS) : Prop where
  q : RPost w4 B b c d (tFlds da (fs.take k) p) w'
  row : w'.heap[g]? = some (.cells (fs.map fv).toArray 104 (0, 0))
  gB : B ≤ g
  sz : B ≤ w'.heap.size
theorem Tl.next {w4 w' w3 : World} {B b c d g : Nat} {k : Nat} {fs : List Fq} {p : PT} {da : TS → List Ask × TS} (h : Tl w4 w' B b c d g k fs p da) (hk : k < fs.length) (hb : b < B) (hc : c < B) (hd : d < B)
    (q : RPost w' B b c d (tFq da fs[k] (tFlds da (fs.take k) p)) w3) : Tl w4 w3 B b c d g (k + 1) fs p da := by
  obtain ⟨t1, t2, t3, h1, h2⟩ := h.q
  have q0 := q
  obtain ⟨u1, u2, u3, g1, g2⟩ := q
  have := h.gB
  refine ⟨?_, (g2.block g (lt_of_heap h.row) fun e => ?_).trans h.row, h.gB, Nat.le_trans h.sz g2.size⟩
  · rw [tFlds_snoc da fs k hk]; exact RPost.step h2 q0
  · rcases e with e | e | e <;> omega
theorem Tl.cell {w4 w' : World} {B b c d g : Nat} {k : Nat} {fs : List Fq} {p : PT} {da : TS → List Ask × TS} (h : Tl w4 w' B b c d g k fs p da) (hk : k < fs.length) : w'.cell? ⟨g, k, none⟩ = some (fv fs[k]) := by
  rw [cell_of_row _ _ _ _ _ _ h.row]
  simp [List.getElem?_eq_getElem hk]
theorem Ask.of_putT (c : Nat) (k : Int) : (aqArr (tak c) Ask.zero (.slice none 0 0) (.slice none 0 0) (.slice none 0 0) Ask.zero (.slice none 0 0) (.slice none 0 0) (.slice none 0 0)).setIfInBounds 8 (.int .i64 k) = aqArr (tak c) Ask.zero (.slice none 0 0) (.slice none 0 0) (.slice none 0 0) (Ask.of k) (.slice none 0 0) (.slice none 0 0) (.slice none 0 0) := rfl
theorem nilI (w : World) : SlcI w (.slice none 0 0) [] := ⟨none, 0, rfl, fun j c hc => by simp at hc⟩
theorem nilT (w : World) : Slc w (.slice none 0 0) [] := ⟨none, 0, rfl, fun j c hc => by simp at hc⟩
set_option maxRecDepth 100000 in
set_option maxHeartbeats 4000000 in
theorem payT_no {w : World} {B b c d : Nat} {s : TS} (h : Ra w B b c d ((Ask.zero, []), s) (.slice none 0 0) (.slice none 0 0) (.slice none 0 0)) (hB : B ≤ w.heap.size) (lo hi : Int) (hw : wi ((tMark lo hi s).1 : Int) lo hi = false) (da : TS → List Ask × TS) :
    Calls Tryz.prog 35 #[.pointer (some ⟨d, 0, none⟩), .int .i64 lo, .int .i64 hi] w fun e w' => e = .returned (.tuple #[]) ∧ RPost w B b c d (tReq da lo hi s) w' := by
  have c0 : w.cell? ⟨d, 0, none⟩ = some (tak c) := by rw [cell_of_row _ _ _ _ _ _ h.row]; rfl
  have c4 : w.cell? ⟨d, 1, none⟩ = some (.int .i64 0) := by rw [cell_of_row _ _ _ _ _ _ h.row]; rfl
  have i1 := takeMark_any 0 lo hi w.drew h.tk.drew
  rw [hw] at i1
  rw [tak] at c0
  have mm := m_taking_mark ⟨c, 0, none⟩
  have HQ := hid h
  have HB := hid hB
  have hT : tReq da lo hi s = ((Ask.zero, []), (tMark lo hi s).2) := by rw [tReq, if_neg (by rw [hw]; exact Bool.false_ne_true)]
  rw [hT]
  clear h hB hw hT
  generalize tMark lo hi s = q at *
  go_enter Tryz.func35, Tryz.ntmps35
  go_wp2
  go_region_held3 (fun w' => w'.cell? ⟨d, 0, none⟩ = some (.iface 81 (.pointer (some ⟨c, 0, none⟩))) ∧ w'.cell? ⟨d, 1, none⟩ = some (.int .i64 0)) (first | exact ⟨c0, c4⟩ | exact S2) (first | (go_at_call 112; (with_reducible refine i1.mono ?_); rintro e w2 ⟨rfl, ht, hk⟩; have hk := Keep.drew' hk; have hrow := HQ.out.row2 hk; have g0 : w2.frozen? ⟨d, 8, none⟩ = false := frozen_of_row _ _ _ _ _ hrow; have e0 : w2.cell? ⟨d, 8, none⟩ = some (.int .i64 0) := (by rw [cell_of_row _ _ _ _ _ _ hrow]; rfl); have S2 : w2.cell? ⟨d, 0, none⟩ = some (tak c) ∧ w2.cell? ⟨d, 1, none⟩ = some (.int .i64 0) := ⟨by rw [cell_of_row _ _ _ _ _ _ hrow]; rfl, by rw [cell_of_row _ _ _ _ _ _ hrow]; rfl⟩; rw [tak] at S2; have HK := hid hk; have HT := hid ht; clear hk ht hrow))
  clear S2
  go_wp2
  refine bodyPost_ret (results_none rfl _ _ _) rfl ?_
  exact ⟨rfl, _, _, _, HQ.out.tk' HK.out HT.out, bc_d HK.out⟩
set_option maxRecDepth 100000 in
set_option maxHeartbeats 4000000 in
theorem payT_yes {w : World} {B b c d : Nat} {s : TS} (h : Ra w B b c d ((Ask.zero, []), s) (.slice none 0 0) (.slice none 0 0) (.slice none 0 0)) (hB : B ≤ w.heap.size) (lo hi : Int) (hw : wi ((tMark lo hi s).1 : Int) lo hi = true) (h1 : 1 ≤ lo) (h2 : hi ≤ 12) (da : TS → List Ask × TS) (hA : ∀ g ∈ flds (tMark lo hi s).1, RC B b c d da g) :
    Calls Tryz.prog 35 #[.pointer (some ⟨d, 0, none⟩), .int .i64 lo, .int .i64 hi] w fun e w' => e = .returned (.tuple #[]) ∧ RPost w B b c d (tReq da lo hi s) w' := by
  have c0 : w.cell? ⟨d, 0, none⟩ = some (tak c) := by rw [cell_of_row _ _ _ _ _ _ h.row]; rfl
  have c4 : w.cell? ⟨d, 1, none⟩ = some (.int .i64 0) := by rw [cell_of_row _ _ _ _ _ _ h.row]; rfl
  have i1 := takeMark_any 0 lo hi w.drew h.tk.drew
  rw [hw] at i1
  rw [tak] at c0
  have mm := m_taking_mark ⟨c, 0, none⟩
  have HQ := hid h
  have HB := hid hB
  have hk := wi_iff.1 hw
  have hT : tReq da lo hi s = tFlds da (flds (tMark lo hi s).1) ((Ask.of ((tMark lo hi s).1 : Int), []), (tMark lo hi s).2) := by rw [tReq, if_pos hw]
  rw [hT]
  obtain ⟨K, hK⟩ : ∃ K : Nat, (tMark lo hi s).1 = K := ⟨_, rfl⟩
  obtain ⟨q, hq⟩ : ∃ q, (tMark lo hi s).2 = q := ⟨_, rfl⟩
  rw [hK] at i1 hA hk hT ⊢
  rw [hq] at i1 ⊢
  have hK1 : 1 ≤ K := by omega
  have hK2 : K ≤ 12 := by omega
  obtain ⟨fs, hfs⟩ : ∃ fs, Hid (flds K = fs) := ⟨_, rfl⟩
  have hl3 := flds_len K
  rw [hfs.out] at hA hl3 ⊢
  have HA := hid hA
  have hbB := h.hb
  have hcB := h.hc
  have hdB := h.hd
  clear h hB hw hT hA hk h1 h2 hK hq
  go_enter Tryz.func35, Tryz.ntmps35
  go_wp2
  go_region_held3 (fun w' => w'.cell? ⟨d, 0, none⟩ = some (.iface 81 (.pointer (some ⟨c, 0, none⟩))) ∧ w'.cell? ⟨d, 1, none⟩ = some (.int .i64 0)) (first | exact ⟨c0, c4⟩ | exact S2) (first | (go_at_call 112; (with_reducible refine i1.mono ?_); rintro e w2 ⟨rfl, ht, hk⟩; have hk := Keep.drew' hk; have hrow := HQ.out.row2 hk; have g0 : w2.frozen? ⟨d, 8, none⟩ = false := frozen_of_row _ _ _ _ _ hrow; have e0 : w2.cell? ⟨d, 8, none⟩ = some (.int .i64 0) := (by rw [cell_of_row _ _ _ _ _ _ hrow]; rfl); have S2 : w2.cell? ⟨d, 0, none⟩ = some (tak c) ∧ w2.cell? ⟨d, 1, none⟩ = some (.int .i64 0) := ⟨by rw [cell_of_row _ _ _ _ _ _ hrow]; rfl, by rw [cell_of_row _ _ _ _ _ _ hrow]; rfl⟩; rw [tak] at S2; have HK := hid hk; have HT := hid ht; clear hk ht hrow))
  obtain ⟨tl, te, ta, q1, q2⟩ := HQ.out.put HK.out ((Ask.of (K : Int), []), q) HT.out 8 (.int .i64 (K : Int)) _ _ _ (Ask.of_putT c (K : Int)) ⟨nilI _, Nw.nil _ _⟩ ⟨nilT _, Nw.nil _ _⟩ (.inl ⟨rfl, rfl⟩) rfl
  have i2 := requestFields_any K hK1 hK2 (w2.setCell ⟨d, 8, none⟩ (.int .i64 (K : Int)))
  unfold FsPost at i2
  rw [hfs.out] at i2
  have hB3 : B ≤ (w2.setCell ⟨d, 8, none⟩ (.int .i64 (K : Int))).heap.size := by rw [World.size_setCell]; exact Nat.le_trans HB.out HK.out.size
  have Q1 := hid q1
  have Q2 := hid q2
  clear q1 q2 S2
  generalize hw3 : w2.setCell ⟨d, 8, none⟩ (.int .i64 (K : Int)) = w3 at *
  go_wp2_with (go_at_call 43; fail)
  go_at_call 43
  refine i2.mono ?_
  rintro e w4 ⟨g, rfl, hg1, hg2, hg3⟩
  have F0 : Hid (Tl w4 w4 B b c d g 0 fs ((Ask.of (K : Int), []), q) da) := ⟨⟨tl, te, ta, Q1.out.below hg3, Keep.refl _ _⟩, hg2, by omega, Nat.le_trans hB3 hg3.size⟩
  have K4 : Hid (Keep (DSet b c d) w w4) := Q2.out.trans (T := fun _ => False) (Keep.ofBelow hg3) (fun _ _ e => e.elim)
  clear hg1 hg2 hg3 i1 i2 c0 c4 e0 g0
  go_wp2
  go_loopw [37] (fun i w' => ∃ k : Nat, k ≤ fs.length ∧ i = .int .i64 k ∧ Hid (Tl w4 w' B b c d g k fs ((Ask.of (K : Int), []), q) da)) (fun i _ => fs.length - (intOf i).toNat)
  case atStart => exact ⟨0, by omega, rfl, F0⟩
  case round =>
    obtain ⟨k, hk, rfl, hF⟩ := hrel
    by_cases hlt : k < fs.length
    · have hlt' : (k : Int) < (fs.length : Int) := by omega
      have hc := hF.out.cell hlt
      obtain ⟨tl', te', ta', q1, q2⟩ := hF.out.q
      have iF := HA.out fs[k] (List.getElem_mem hlt) wr _ tl' te' ta' q1 hF.out.sz
      have N := hid (fun p => Tl.next (w3 := p) hF.out hlt hbB hcB hdB)
      rw [fv] at hc
      clear q1 q2
      generalize fs[k] = gg at *
      cases gg with
      | a =>
        rw [show fnum .a = 58 from rfl] at hc iF
        go_wp2_with (go_at_call 58; refine iF.mono ?_; rintro e w5 ⟨rfl, p⟩; have N1 := hid (N.out _ p); clear p)
        exact ⟨⟨k + 1, by omega, by go_num, N1⟩, by simp [intOf]; omega⟩
      | b =>
        rw [show fnum .b = 61 from rfl] at hc iF
        go_wp2_with (go_at_call 61; refine iF.mono ?_; rintro e w5 ⟨rfl, p⟩; have N1 := hid (N.out _ p); clear p)
        exact ⟨⟨k + 1, by omega, by go_num, N1⟩, by simp [intOf]; omega⟩
      | size =>
        rw [show fnum .size = 57 from rfl] at hc iF
        go_wp2_with (go_at_call 57; refine iF.mono ?_; rintro e w5 ⟨rfl, p⟩; have N1 := hid (N.out _ p); clear p)
        exact ⟨⟨k + 1, by omega, by go_num, N1⟩, by simp [intOf]; omega⟩
      | indices =>
        rw [show fnum .indices = 59 from rfl] at hc iF
        go_wp2_with (go_at_call 59; refine iF.mono ?_; rintro e w5 ⟨rfl, p⟩; have N1 := hid (N.out _ p); clear p)
        exact ⟨⟨k + 1, by omega, by go_num, N1⟩, by simp [intOf]; omega⟩
      | heads =>
        rw [show fnum .heads = 60 from rfl] at hc iF
        go_wp2_with (go_at_call 60; refine iF.mono ?_; rintro e w5 ⟨rfl, p⟩; have N1 := hid (N.out _ p); clear p)
        exact ⟨⟨k + 1, by omega, by go_num, N1⟩, by simp [intOf]; omega⟩
      | asks =>
        rw [show fnum .asks = 62 from rfl] at hc iF
        go_wp2_with (go_at_call 62; refine iF.mono ?_; rintro e w5 ⟨rfl, p⟩; have N1 := hid (N.out _ p); clear p)
        exact ⟨⟨k + 1, by omega, by go_num, N1⟩, by simp [intOf]; omega⟩
      | entries =>
        rw [show fnum .entries = 56 from rfl] at hc iF
        go_wp2_with (go_at_call 56; refine iF.mono ?_; rintro e w5 ⟨rfl, p⟩; have N1 := hid (N.out _ p); clear p)
        exact ⟨⟨k + 1, by omega, by go_num, N1⟩, by simp [intOf]; omega⟩
    · obtain rfl : k = fs.length := by omega
      go_wp2
      go_end0
      refine ⟨rfl, ?_⟩
      have q1 := hF.out.q
      rw [List.take_length] at q1
      exact RPost.step K4.out q1
end Msg
end Go.Proofs.YteilkpihddfpeaaGreatDoor
