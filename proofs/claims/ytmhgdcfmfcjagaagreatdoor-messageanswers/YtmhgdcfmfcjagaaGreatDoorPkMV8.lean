import Derived.Test.YtmhgdcfmfcjagaaGreatDoorPkMV7
import Derived.Test.YtmhgdcfmfcjagaaGreatDoorPkYW2
import Derived.Test.YtmhgdcfmfcjagaaGreatDoorPkMF9
namespace Go.Proofs.YtmhgdcfmfcjagaaGreatDoor
open Go.RowKit Cod
namespace Msg
set_option maxRecDepth 100000 in
set_option maxHeartbeats 2000000 in
theorem g_parts {w : World} {base lo0 b c d : Nat} {v : Value} {s : LS} {x : Part} {uh ue up : Value} {t : Part} {th te tp : Value} {l : List Part} (h : Pa w base b c d v s x uh ue up t th te tp) (hu : Ps w lo0 base up l) (hn : x.n = l.length) (hl : wi (l.length : Int) 1 64 = true) (hg : ∀ x ∈ l, Gp x) (hm : Sm s 29000000000000) :
    Calls Tryz.prog 120 #[.pointer (some ⟨d, 0, none⟩)] w fun e w' => e = .returned (.tuple #[]) ∧ GPost w base b c d v (lFr x (lParts l) .parts s) x uh ue up (setR x .parts t) w' := by
  have i1 := layParts_yes h.ly.drew (hu.keep (S := fun _ => False) (Keep.refl _ w).drew (fun _ _ _ e => e)) hl hg hm
  obtain ⟨p1, q1, rfl⟩ := hu.shape
  have c0 : w.cell? ⟨d, 0, none⟩ = some (lay c) := by rw [cell_of_row _ _ _ _ _ _ h.row]; rfl
  have c4 : w.cell? ⟨d, 8, none⟩ = some (.slice p1 l.length q1) := by rw [cell_of_row _ _ _ _ _ _ h.row]; rfl
  rw [lay] at c0
  have mm := m_laying_parts ⟨c, 0, none⟩
  have HQ := hid h
  have HN := hid hn
  clear h hm hu hn hg hl
  go_enter Tryz.func120, Tryz.ntmps120
  go_region_held3 (fun w' => w'.cell? ⟨d, 0, none⟩ = some (.iface 96 (.pointer (some ⟨c, 0, none⟩))) ∧ w'.cell? ⟨d, 8, none⟩ = some (.slice p1 l.length q1)) (first | exact ⟨c0, c4⟩ | exact S2 | exact S3) (first | (go_at_call 153; (with_reducible refine i1.mono ?_); rintro e w2 ⟨rfl, hl⟩; have hl := hl.drew; have hrow := HQ.out.row2 hl; have g0 : w2.frozen? ⟨d, 16, none⟩ = false := frozen_of_row _ _ _ _ _ hrow; have e0 : w2.cell? ⟨d, 16, none⟩ = some tp := (by rw [cell_of_row _ _ _ _ _ _ hrow]; rfl); have S2 : w2.cell? ⟨d, 0, none⟩ = some (lay c) ∧ w2.cell? ⟨d, 8, none⟩ = some (.slice p1 l.length q1) := ⟨by rw [cell_of_row _ _ _ _ _ _ hrow]; rfl, by rw [cell_of_row _ _ _ _ _ _ hrow]; rfl⟩; have hrow3 := row_set 16 (.slice p1 l.length q1) hrow rfl; have S3 : (w2.setCell ⟨d, 16, none⟩ (.slice p1 l.length q1)).cell? ⟨d, 0, none⟩ = some (lay c) ∧ (w2.setCell ⟨d, 16, none⟩ (.slice p1 l.length q1)).cell? ⟨d, 8, none⟩ = some (.slice p1 l.length q1) := ⟨by rw [cell_of_row _ _ _ _ _ _ hrow3]; rfl, by rw [cell_of_row _ _ _ _ _ _ hrow3]; rfl⟩; rw [lay] at S2 S3; have HL := hid hl; clear hl hrow hrow3))
  go_end0
  exact ⟨rfl, HQ.out.put HL.out 16 _ _ _ _ _ rfl HQ.out.t1 HQ.out.t2 ⟨p1, q1, by rw [show (setR x .parts t).n = x.n from rfl, HN.out]⟩⟩
structure Gr (K : Nat) (x : Part) : Prop where
  fit : PFit x
  wi : wi x.status (leastOf (K : Int)) 8 = true
  self : x.status = 0 → setRs x (rflds K) (Part.of 0) = x
  oth : ¬ x.status = 0 → Part.of x.status = x
theorem parts12 {K : Nat} (hK : K ≤ 12) (h : .parts ∈ rflds K) : K = 12 := by
  match K, hK with
  | 0, _ => simp [rflds] at h
  | 1, _ => simp [rflds] at h
  | 2, _ => simp [rflds] at h
  | 3, _ => simp [rflds] at h
  | 4, _ => simp [rflds] at h
  | 5, _ => simp [rflds] at h
  | 6, _ => simp [rflds] at h
  | 7, _ => simp [rflds] at h
  | 8, _ => simp [rflds] at h
  | 9, _ => simp [rflds] at h
  | 10, _ => simp [rflds] at h
  | 11, _ => simp [rflds] at h
  | 12, _ => rfl
theorem payR_yes {w : World} {base lo0 b c d : Nat} {v : Value} {s : LS} {x : Part} {uh ue up : Value} {l : List Part} (h : Pa w base b c d v s x uh ue up Part.zero (.slice none 0 0) (.slice none 0 0) (.slice none 0 0)) (K : Nat) (hK : K ≤ 12) (hg : Gr K x) (hm : Sm s 1000000000000)
    (hu : K = 12 → x.status = 0 → Ps w lo0 base up l ∧ x.n = l.length ∧ wi (l.length : Int) 1 64 = true ∧ ∀ x ∈ l, Gp x) :
    Calls Tryz.prog 74 #[.pointer (some ⟨d, 0, none⟩), .int .i64 (K : Int)] w fun e w' => e = .returned (.tuple #[]) ∧ GPost w base b c d v (lReply (K : Int) x l s) x uh ue up x w' := by
  by_cases h0 : x.status = 0
  · have hK1 : 1 ≤ K := by
      rcases Nat.eq_zero_or_pos K with e | e
      · subst e
        have h2 := hg.wi
        rw [show leastOf ((0 : Nat) : Int) = 1 from rfl, wi_iff] at h2
        omega
      · exact e
    have hi : isDn x.status (leastOf (K : Int)) = true := by rw [isDn, hg.wi, Bool.true_and]; exact decide_eq_true h0
    have hT : lReply (K : Int) x l s = lFrs x (lParts l) (rflds K) (lMark 0 0 8 (lMark (K : Int) (K : Int) (K : Int) s)) := by
      rw [lReply, Int.toNat_natCast, lTail, if_pos hi, hg.self h0, wholeP_self, Bool.not_true, Bool.or_false, h0, least_pos hK1]
    rw [hT]
    have hs := hg.self h0
    have key : ∀ {K0 M : Nat}, 68719476736 ≤ K0 → 1000000000000 + 2 + ((rflds K).length - 1) * K0 ≤ M → (∀ g ∈ rflds K, GC w M base b c d x uh ue up (lParts l) g) → (.parts ∈ rflds K → ∀ s m, Sm s m → Sm (lParts l s) (m + K0)) → _ := fun a1 a2 a3 a4 => payR_done h hg.fit hm (by omega) K hK1 hK h0 a1 a2 (lParts l) a3 a4
    rw [hs] at key
    by_cases h12 : K = 12
    · obtain ⟨u1, u2, u3, u4⟩ := hu h12 h0
      have hfl : rflds K = [.parts] := by rw [h12]; rfl
      refine key (K0 := 27487790694400) (M := 29000000000000) (by omega) (by rw [hfl]; decide) (fun g hgm => ?_) (fun _ s m hs => ?_)
      · rw [hfl, List.mem_singleton] at hgm
        subst hgm
        intro w' v' s' t th te tp hb hQ hS
        exact g_parts hQ (u1.bl hb) u2 u3 u4 hS
      · have hle := (wi_iff.1 u3).2
        rw [lParts, if_pos u3]
        have h9 : (digs (l.length : Int).toNat).length ≤ 9 := digs_len9 (by omega)
        have h5 : Sm (lNum (l.length : Int) s) (m + 9) := (hs.lif _ _ _).mono (by omega)
        have := sm_parts l u4 h5
        exact this.mono (by have : l.length ≤ 64 := (by omega); have := Nat.mul_le_mul_right 343597383680 this; omega)
    · refine key (K0 := 68719476736) (M := 29000000000000) (by omega) (by have := rflds_len K; have : ((rflds K).length - 1) * 68719476736 ≤ 3 * 68719476736 := Nat.mul_le_mul_right _ (by omega); omega) (fun g hgm => gc_six (by omega) hg.fit g (fun e => h12 (parts12 hK (e ▸ hgm)))) (fun e => absurd (parts12 hK e) h12)
  · have hT : lReply (K : Int) x l s = lMark x.status (leastOf (K : Int)) 8 (lMark (K : Int) (K : Int) (K : Int) s) := by
      rw [lReply, lTail, if_neg (by rw [isDn, decide_eq_false h0, Bool.and_false]; exact Bool.false_ne_true), stB, if_pos hg.wi, hg.oth h0, wholeP_self, Bool.not_true, Bool.or_false]
    have := payR_not h hm (by omega) K hg.wi h0
    rw [hg.oth h0] at this
    rw [hT]
    exact this
theorem Ap.bl {w w' : World} {base : Nat} {x : Part} {uh ue up : Value} (h : Ap w base x uh ue up) (hb : Below base w w') : Ap w' base x uh ue up := ⟨h.l1, h.l2, h.l1.slc h.s1 hb, h.l2.slc h.s2 hb, h.s3⟩
theorem Ap.mono {w : World} {base base' : Nat} {x : Part} {uh ue up : Value} (h : Ap w base x uh ue up) (hb : base ≤ base') : Ap w base' x uh ue up :=
  ⟨fun y n c e h0 => Nat.lt_of_lt_of_le (h.l1 y n c e h0) hb, fun y n c e h0 => Nat.lt_of_lt_of_le (h.l2 y n c e h0) hb, h.s1, h.s2, h.s3⟩
set_option maxRecDepth 100000 in
set_option maxHeartbeats 4000000 in
theorem replyL_yes {w : World} {base lo0 b c : Nat} {v : Value} {s : LS} {x : Part} {p1 p2 p3 : Option Addr} {q1 q2 q3 : Nat} {l : List Part} (h : Ly w base b c v s) (hx : Ap w base x (.slice p1 x.hs.length q1) (.slice p2 x.ent.length q2) (.slice p3 x.n q3)) (K : Nat) (hK : K ≤ 12) (hg : Gr K x) (hm : Sm s 1000000000000)
    (hu : K = 12 → x.status = 0 → Ps w lo0 base (.slice p3 x.n q3) l ∧ x.n = l.length ∧ wi (l.length : Int) 1 64 = true ∧ ∀ x ∈ l, Gp x) :
    Calls Tryz.prog 41 #[.pointer (some ⟨c, 0, none⟩), .int .i64 (K : Int), .agg #[.int .i64 x.status, .int .i64 x.size, .int .i64 x.a, .int .i64 x.b, .string ⟨x.root.toArray⟩, .slice p1 x.hs.length q1, .slice p2 x.ent.length q2, .slice p3 x.n q3]] w fun e w' => e = .returned (.tuple #[]) ∧ Lo w base b c v (lReply (K : Int) x l s) w' := by
  have bA := ((Below.refl w.heap.size w).alloc (Nat.le_refl _) (.cells #[.int .i64 x.status, .int .i64 x.size, .int .i64 x.a, .int .i64 x.b, .string ⟨x.root.toArray⟩, .slice p1 x.hs.length q1, .slice p2 x.ent.length q2, .slice p3 x.n q3] 45)).alloc (by rw [size_alloc]; omega) (.cells (rpArr (lay c) x (.slice p1 x.hs.length q1) (.slice p2 x.ent.length q2) (.slice p3 x.n q3) Part.zero (.slice none 0 0) (.slice none 0 0) (.slice none 0 0)) 114)
  have hP := pa_new (d := w.heap.size + 1) h hx bA (heap_alloc_at _ _ _ (size_alloc _ _)) (by omega)
  have i4 := payR_yes (l := l) (lo0 := lo0) hP K hK hg hm (fun e1 e2 => by
    obtain ⟨a1, a2, a3, a4⟩ := hu e1 e2
    exact ⟨a1.bl (bA.mono h.base), a2, a3, a4⟩)
  have N := hid (fun w4 v2 w5 => lo_end (d := w.heap.size + 1) (w2 := w4) (v' := v2) (w4 := w5) (base := base) (b := b) (c := c) (v := v) (s2 := lReply (K : Int) x l s) bA (by omega))
  generalize lReply (K : Int) x l s = s9 at *
  simp only [lay, rpArr, Part.zero, sv] at i4 N
  clear h hx bA hP hu hm hg
  go_enter Tryz.func41, Tryz.ntmps41
  go_wp2_with (first
    | (go_at_call 74; refine i4.mono ?_; rintro e w4 ⟨rfl, v2, th, te, tp, j1, j2, j3⟩; have i5 := wholeP_yes j1; have i6 := takes_any true w4.drew j1.ly.drew; have J2 := hid j2; have J3 := hid j3; clear j1 j2 j3)
    | (go_at_call 75; refine i5.mono ?_; rintro e w5 ⟨rfl, rfl⟩)
    | (go_at_call 60; refine i6.mono ?_; rintro e w6 ⟨rfl, j4, j5⟩; have N1 := hid (N.out _ _ _ J2.out J3.out j4.yes j5); clear j4 j5))
  go_end0
  exact ⟨rfl, N1.out⟩
structure Rr (w : World) (K : Nat) (x : Part) (l : List Part) (uh ue up : Value) : Prop where
  ak : Ap w w.heap.size x uh ue up
  gr : Gr K x
  ls : K = 12 → x.status = 0 → Ps w 0 w.heap.size up l ∧ x.n = l.length ∧ wi (l.length : Int) 1 64 = true ∧ ∀ x ∈ l, Gp x
set_option maxRecDepth 100000 in
set_option maxHeartbeats 2000000 in
theorem encodeReply_yes {w : World} {K : Nat} {x : Part} {l : List Part} {uh ue up : Value} {p : List UInt8} (T : Lay w) (hK : K ≤ 12) (h : Rr w K x l uh ue up) (hq : lReply (K : Int) x l (.ok [], false) = (.ok p, false)) (hp : p.length ≤ 1048576) :
    Calls Tryz.prog 15 #[.int .i64 (K : Int), rpV x uh ue up] w fun e w' => e = .returned (.tuple #[sv (wrText p), .int .i64 0]) ∧ Below w.heap.size w w' := by
  obtain ⟨p1, q1, rfl, _⟩ := id h.ak.s1
  obtain ⟨p2, q2, rfl, _⟩ := id h.ak.s2
  obtain ⟨p3, q3, rfl⟩ := id h.ak.s3
  have hT := T.lt
  have H := hid h
  have HT := hid T
  have HQ := hid hq
  have hw : wi (K : Int) 0 12 = true := wi_iff.2 ⟨by omega, by omega⟩
  clear h T hq
  rw [rpV, show sv x.root = .string ⟨x.root.toArray⟩ from rfl]
  go_enter Tryz.func15, Tryz.ntmps15
  go_wp2_with (first
    | (go_at_call 28; refine (within_any _ _ _ _).mono ?_; rw [hw]; rintro e w' ⟨rfl, hw'⟩; rw [hw']; clear hw' w')
    | (go_at_call 29; fail))
  obtain ⟨w1, hw1⟩ : ∃ w1, Hid (w.alloc (.cells #[.int .i64 x.status, .int .i64 x.size, .int .i64 x.a, .int .i64 x.b, .string ⟨x.root.toArray⟩, .slice p1 x.hs.length q1, .slice p2 x.ent.length q2, .slice p3 x.n q3] 45) = w1) := ⟨_, rfl⟩
  have b1 : Below w.heap.size w w1 := by rw [← hw1.out]; exact (Below.refl _ _).alloc (Nat.le_refl _) _
  have r1 : w1.heap[w.heap.size]? = some (.cells #[.int .i64 x.status, .int .i64 x.size, .int .i64 x.a, .int .i64 x.b, .string ⟨x.root.toArray⟩, .slice p1 x.hs.length q1, .slice p2 x.ent.length q2, .slice p3 x.n q3] 45 (0, 0)) := by rw [← hw1.out]; exact heap_alloc_new _ _
  have z1 : w1.heap.size = w.heap.size + 1 := by rw [← hw1.out]; exact size_alloc _ _
  rw [hw1.out]
  go_at_call 29
  refine (newWriter_any w1).mono ?_
  rintro e w2 ⟨rfl, n1, n2, n3⟩
  obtain ⟨w3, hw3⟩ : ∃ w3, Hid (w2.alloc (.cells #[.pointer (some ⟨w1.heap.size, 0, none⟩), .bool false] 63) = w3) := ⟨_, rfl⟩
  have b3 : Below w2.heap.size w2 w3 := by rw [← hw3.out]; exact (Below.refl _ _).alloc (Nat.le_refl _) _
  have hr3 : w3.heap[w2.heap.size]? = some (.cells #[.pointer (some ⟨w1.heap.size, 0, none⟩), .bool false] 63 (0, 0)) := by rw [← hw3.out]; exact heap_alloc_new _ _
  have bb : Below w.heap.size w w3 := b1.trans ((n2.mono (by omega)).trans (b3.mono (by have := n2.size; omega)))
  have hY : Ly w3 w1.heap.size w1.heap.size w2.heap.size (.slice none 0 0) (.ok [], false) := ⟨hr3, n1.below b3, by omega, fun e => (by cases e), n2.size⟩
  have r3 : w2.heap[w.heap.size]? = some (.cells #[.int .i64 x.status, .int .i64 x.size, .int .i64 x.a, .int .i64 x.b, .string ⟨x.root.toArray⟩, .slice p1 x.hs.length q1, .slice p2 x.ent.length q2, .slice p3 x.n q3] 45 (0, 0)) := (n2.block _ (by omega)).trans r1
  have c0 : w2.cell? ⟨w.heap.size, 0, none⟩ = some (.int .i64 x.status) := by rw [cell_of_row _ _ _ _ _ _ r3]; rfl
  have c1 : w2.cell? ⟨w.heap.size, 1, none⟩ = some (.int .i64 x.size) := by rw [cell_of_row _ _ _ _ _ _ r3]; rfl
  have c2 : w2.cell? ⟨w.heap.size, 2, none⟩ = some (.int .i64 x.a) := by rw [cell_of_row _ _ _ _ _ _ r3]; rfl
  have c3 : w2.cell? ⟨w.heap.size, 3, none⟩ = some (.int .i64 x.b) := by rw [cell_of_row _ _ _ _ _ _ r3]; rfl
  have c4 : w2.cell? ⟨w.heap.size, 4, none⟩ = some (.string ⟨x.root.toArray⟩) := by rw [cell_of_row _ _ _ _ _ _ r3]; rfl
  have c5 : w2.cell? ⟨w.heap.size, 5, none⟩ = some (.slice p1 x.hs.length q1) := by rw [cell_of_row _ _ _ _ _ _ r3]; rfl
  have c6 : w2.cell? ⟨w.heap.size, 6, none⟩ = some (.slice p2 x.ent.length q2) := by rw [cell_of_row _ _ _ _ _ _ r3]; rfl
  have c7 : w2.cell? ⟨w.heap.size, 7, none⟩ = some (.slice p3 x.n q3) := by rw [cell_of_row _ _ _ _ _ _ r3]; rfl
  have hm0 : Sm (WSt.ok [], false) 1000000000000 := fun bs e => by injection e with e; subst e; simp
  have i1 := replyL_yes (l := l) (lo0 := 0) hY ((H.out.ak.bl bb).mono (by omega : w.heap.size ≤ w1.heap.size)) K hK H.out.gr hm0 (fun e1 e2 => by
    obtain ⟨a1, a2, a3, a4⟩ := H.out.ls e1 e2
    exact ⟨(a1.bl bb).mono (Nat.le_refl _) (by omega), a2, a3, a4⟩)
  rw [HQ.out] at i1
  have HY := hid hY
  have BB := hid bb
  have HT3 : Hid (Lay w3) := HT.out.below bb hT
  have hT1 : 1 ≤ w1.heap.size := by omega
  have hle : w.heap.size ≤ w1.heap.size := by omega
  have hlt2 : w.heap.size < w2.heap.size := by have := n2.size; omega
  have hne2 : ¬ w.heap.size = w2.heap.size := by omega
  clear n1 n2 n3 b1 b3 r1 z1 r3 hr3 hY bb hm0
  rw [← hw3.out] at i1
  go_wp2_with (first
    | (go_at_call 41; refine i1.mono ?_; rintro e w5 ⟨rfl, hlo⟩; rw [hw3.out] at hlo; obtain ⟨v', y1, y2, y3⟩ := hlo; have bl5 := Lo.bl HY.out y2; have i2 := frame_yes y1 (HT3.out.below bl5 hT1) hp; have B5 := hid (BB.out.trans (bl5.mono hle)); clear y1 y2 y3 bl5)
    | (go_at_call 31; refine i2.mono ?_; rintro e w6 ⟨rfl, h6⟩; have B6 := hid (B5.out.trans (h6.mono B5.out.size)); clear h6))
  go_ret2
  exact ⟨rfl, B6.out⟩
end Msg
end Go.Proofs.YtmhgdcfmfcjagaaGreatDoor

namespace Go.Proofs.YtmhgdcfmfcjagaaGreatDoor
open Go.RowKit Cod
namespace Msg
theorem lettR_cases {K : Nat} (hK : K ≤ 12) (h12 : K ≠ 12) (j : Nat) (hj : j < (tw (K : Int)).length) : (∃ hl : j < (rflds K).length, (tw (K : Int))[j] = rlett (rflds K)[j] ∧ (rflds K)[j] ≠ .parts) ∨ (((tw (K : Int))[j] = 45 ∨ (tw (K : Int))[j] = 33) ∧ rflds K = []) := by
  by_cases h0 : K = 0
  · subst h0
    have hj : j < 1 := hj
    obtain rfl : j = 0 := by omega
    exact .inr ⟨.inr rfl, rfl⟩
  by_cases h11 : K = 11
  · subst h11
    have hj : j < 1 := hj
    obtain rfl : j = 0 := by omega
    exact .inr ⟨.inl rfl, rfl⟩
  left
  have e := tw_rflds hK h0 h11
  have hl : j < (rflds K).length := by rw [e, List.length_map] at hj; exact hj
  refine ⟨hl, ?_, fun hp => ?_⟩
  · simp only [e, List.getElem_map]
  · have := List.getElem_mem hl
    rw [hp] at this
    exact h12 (parts12 hK this)
theorem rflds_le {K : Nat} (hK : K ≤ 12) : (rflds K).length ≤ (tw (K : Int)).length ∧ (tw (K : Int)).length ≤ 4 := by
  match K, hK with
  | 0, _ | 1, _ | 2, _ | 3, _ | 4, _ | 5, _ | 6, _ | 7, _ | 8, _ | 9, _ | 10, _ | 11, _ | 12, _ => decide
set_option maxRecDepth 100000 in
set_option maxHeartbeats 8000000 in
theorem takeReply17_not {w : World} {b : Nat} {s : ByteArray} {st : RS} (h : XRd w b s st) (kind : Nat) (K : Nat) (hK : st.val 0 (rdByte st.rest) = K) (hK0 : ¬ K = 0) :
    Calls Tryz.prog 57 #[.pointer (some ⟨b, 0, none⟩), .int .i64 (kind : Int)] w (PPo w b s (Part.of (K : Int), st.step (rdByte st.rest))) := by
  have hbl := h.lt
  have bA := (Below.refl w.heap.size w).alloc (Nat.le_refl _) (.cells #[.int .i64 0, .int .i64 0, .int .i64 0, .int .i64 0, .string ⟨#[]⟩, .slice none 0 0, .slice none 0 0, .slice none 0 0] 45)
  have rA := heap_alloc_new w (.cells #[.int .i64 0, .int .i64 0, .int .i64 0, .int .i64 0, .string ⟨#[]⟩, .slice none 0 0, .slice none 0 0, .slice none 0 0] 45)
  have zA := size_alloc w (.cells #[.int .i64 0, .int .i64 0, .int .i64 0, .int .i64 0, .string ⟨#[]⟩, .slice none 0 0, .slice none 0 0, .slice none 0 0] 45)
  have i1 := xByte_any b s st _ (h.below bA)
  have BA := hid bA
  have RA := hid rA
  obtain ⟨st1, hst⟩ : ∃ st1, Hid (st.step (rdByte st.rest) = st1) := ⟨_, rfl⟩
  rw [hK, hst.out] at i1
  rw [hst.out]
  have i2 := fun w => told17_any (kind : Int) w
  obtain ⟨WD, hWD⟩ := pstr (tw (kind : Int))
  rw [hWD.out.1] at i2
  have y0 : ((K : Int) == 0) = false := by simp; omega
  have y3 : ((Part.of (K : Int)).status == 0) = false := y0
  have HN0 : Hid ((Part.of (K : Int), st1).1.n = 0) := rfl
  clear h bA rA hK hK0 hWD
  go_enter Tryz.func57, Tryz.ntmps57
  go_wp2_with (go_at_call 56; fail)
  go_at_call 56
  refine i1.mono ?_
  rintro e w1 ⟨rfl, g1, g2⟩
  have k1 : Keep (fun k => k = b) w w1 := (Keep.ofBelow BA.out : Keep (fun k => k = b) w _).trans (T := fun k => k = b) (Keep.ofBut g2 rfl) (fun _ _ e => e)
  have r1 := ((Keep.ofBut g2 rfl : Keep (fun k => k = b) _ w1).block w.heap.size (by omega) (by omega)).trans RA.out
  have z1 : w.heap.size < w1.heap.size := by have := (Keep.ofBut g2 rfl : Keep (fun k => k = b) _ w1).size; omega
  have b2 := (Below.refl w1.heap.size w1).alloc (Nat.le_refl _) (.cells #[.int .i64 (K : Int), .int .i64 0, .int .i64 0, .int .i64 0, .string ⟨#[]⟩, .slice none 0 0, .slice none 0 0, .slice none 0 0] 45)
  have r2 := heap_alloc_new w1 (.cells #[.int .i64 (K : Int), .int .i64 0, .int .i64 0, .int .i64 0, .string ⟨#[]⟩, .slice none 0 0, .slice none 0 0, .slice none 0 0] 45)
  have zz2 := size_alloc w1 (.cells #[.int .i64 (K : Int), .int .i64 0, .int .i64 0, .int .i64 0, .string ⟨#[]⟩, .slice none 0 0, .slice none 0 0, .slice none 0 0] 45)
  have D0 : Hid (Dq (w1.alloc (.cells #[.int .i64 (K : Int), .int .i64 0, .int .i64 0, .int .i64 0, .string ⟨#[]⟩, .slice none 0 0, .slice none 0 0, .slice none 0 0] 45)) (w1.heap.size + 1) b w1.heap.size s (Part.of ((K : Int)), st1) (.slice none 0 0) (.slice none 0 0) (.slice none 0 0)) := ⟨g1.below b2, r2, by omega, by omega, by omega, nilT _, Nw.nil _ _, nilT _, Nw.nil _ _⟩
  have R2 := hid ((b2.block _ z1).trans r1)
  have K2 : Hid (Keep (fun k => k = b) w (w1.alloc (.cells #[.int .i64 (K : Int), .int .i64 0, .int .i64 0, .int .i64 0, .string ⟨#[]⟩, .slice none 0 0, .slice none 0 0, .slice none 0 0] 45))) := k1.trans (T := fun _ => False) (Keep.ofBelow b2) (fun _ _ e => e.elim)
  obtain ⟨c0, c1, c2, c3, c4, c5, c6, c7⟩ := rp_cells (x := Part.of ((K : Int))) (P := ⟨#[]⟩) r2
  simp only [Part.of] at c0 c1 c2 c3
  have HZ2 := hid zz2
  clear g1 g2 k1 r1 b2 r2 i1 zz2
  go_wp2_with (go_at_call 42; refine (i2 _).mono ?_; rintro e w' ⟨rfl, hw'⟩; rw [hw']; clear hw' w')
  clear c0 c1 c2 c3 c4 c5 c6 c7
  obtain ⟨W2, hW2⟩ : ∃ W2, Hid (w1.alloc (.cells #[.int .i64 (K : Int), .int .i64 0, .int .i64 0, .int .i64 0, .string ⟨#[]⟩, .slice none 0 0, .slice none 0 0, .slice none 0 0] 45) = W2) := ⟨_, rfl⟩
  rw [hW2.out] at D0 R2 K2 HZ2 ⊢
  generalize w1.heap.size = d at *
  go_loopw [7] (fun i w' => i = .int .i64 0 ∧ w' = W2) (fun _ _ => 0)
  case atStart => exact ⟨rfl, rfl⟩
  case round =>
    obtain ⟨rfl, rfl⟩ := hrel
    have HD : Hid (DPq wr (d + 1) b d s (Part.of (K : Int), st1) (.slice none 0 0) wr) := ⟨_, _, D0.out, Keep.refl _ _⟩
    clear D0
    by_cases hz : (0 : Int) < (WD.size : Int)
    · skip
      obtain ⟨vh, ve, D1, D2⟩ := HD.out
      obtain ⟨PS, hPS⟩ := pstr (Part.of (K : Int)).root
      have rw_ := D1.row
      rw [hPS.out.1] at rw_
      obtain ⟨a1, n1, e1, _⟩ := id D1.s1
      obtain ⟨a2, n2, e2, _⟩ := id D1.s2
      subst e1 e2
      obtain ⟨d0, d1, d2, d3, d4, d5, d6, d7⟩ := rp_cells rw_
      have R3 := hid ((D2.block w.heap.size (by have := HZ2.out; omega) (by omega)).trans R2.out)
      obtain ⟨_, _, OUT⟩ : ∃ (_ : True) (_ : True), Hid (∀ cs, #[Value.int .i64 (K : Int), .int .i64 0, .int .i64 0, .int .i64 0, .string PS, .slice a1 ((Part.of (K : Int), st1)).1.hs.length n1, .slice a2 ((Part.of (K : Int), st1)).1.ent.length n2, .slice none 0 0] = cs → PPo w b s ((Part.of (K : Int), st1)) (.returned (.agg cs)) (wr.setRow w.heap.size cs)) := ⟨trivial, trivial, fun cs hcs => by
        have k1 : Keep (fun k => k = w.heap.size) wr (wr.setRow w.heap.size cs) := ⟨rfl, rfl, rfl, by rw [setRow_size]; exact Nat.le_refl _, fun k _ hk => setRow_other wr _ k _ hk⟩
        have hS : ∀ k, d + 1 ≤ k → k < wr.heap.size → ¬ k = w.heap.size := fun k k1 _ e => by omega
        have hle : wr.heap.size ≤ (wr.setRow w.heap.size cs).heap.size := k1.size
        refine ⟨_, _, by (rw [rpV, hPS.out.1, ← hcs]; try rfl), D1.n1.slc D1.s1 k1 hS, D1.n1.mono (by omega) hle, D1.n2.slc D1.s2 k1 hS, D1.n2.mono (by omega) hle, HN0.out, D1.rd.keep k1 (by omega), ?_⟩
        refine (K2.out.trans D2 fun j hj e => ?_).trans k1 fun j hj e => ?_
        · rcases e with e | e
          · exact e
          · omega
        · omega⟩
      clear D1 D2 rw_ HD
      go_wp2_with ((with_reducible show wpList _ _ _ (Oper.mk _ (Op.store 45 _ _) _ _ _ _ :: _) _ _); go_must (refine wpList_store_row rfl 45 _ _ rfl w.heap.size _ rfl rfl 45 _ R3.out (sizeRp' _ _ _ _ _ _ _ _) rfl (oneRp _ _ _ _ _ _ _ _ _ _ _ _ _ _) ?_))
      refine bodyPost_ret (results_cell_row rfl _ _ w.heap.size 45 _ (0, 0) _ rfl (setRow_heap _ _ _ _ _ _ R3.out) Tryz.underlying45 rfl sizeRp) rfl ?_
      exact OUT.out _ rfl
    · skip
      obtain ⟨vh, ve, D1, D2⟩ := HD.out
      obtain ⟨PS, hPS⟩ := pstr (Part.of (K : Int)).root
      have rw_ := D1.row
      rw [hPS.out.1] at rw_
      obtain ⟨a1, n1, e1, _⟩ := id D1.s1
      obtain ⟨a2, n2, e2, _⟩ := id D1.s2
      subst e1 e2
      obtain ⟨d0, d1, d2, d3, d4, d5, d6, d7⟩ := rp_cells rw_
      have R3 := hid ((D2.block w.heap.size (by have := HZ2.out; omega) (by omega)).trans R2.out)
      obtain ⟨_, _, OUT⟩ : ∃ (_ : True) (_ : True), Hid (∀ cs, #[Value.int .i64 (K : Int), .int .i64 0, .int .i64 0, .int .i64 0, .string PS, .slice a1 ((Part.of (K : Int), st1)).1.hs.length n1, .slice a2 ((Part.of (K : Int), st1)).1.ent.length n2, .slice none 0 0] = cs → PPo w b s ((Part.of (K : Int), st1)) (.returned (.agg cs)) (wr.setRow w.heap.size cs)) := ⟨trivial, trivial, fun cs hcs => by
        have k1 : Keep (fun k => k = w.heap.size) wr (wr.setRow w.heap.size cs) := ⟨rfl, rfl, rfl, by rw [setRow_size]; exact Nat.le_refl _, fun k _ hk => setRow_other wr _ k _ hk⟩
        have hS : ∀ k, d + 1 ≤ k → k < wr.heap.size → ¬ k = w.heap.size := fun k k1 _ e => by omega
        have hle : wr.heap.size ≤ (wr.setRow w.heap.size cs).heap.size := k1.size
        refine ⟨_, _, by (rw [rpV, hPS.out.1, ← hcs]; try rfl), D1.n1.slc D1.s1 k1 hS, D1.n1.mono (by omega) hle, D1.n2.slc D1.s2 k1 hS, D1.n2.mono (by omega) hle, HN0.out, D1.rd.keep k1 (by omega), ?_⟩
        refine (K2.out.trans D2 fun j hj e => ?_).trans k1 fun j hj e => ?_
        · rcases e with e | e
          · exact e
          · omega
        · omega⟩
      clear D1 D2 rw_ HD
      go_wp2_with ((with_reducible show wpList _ _ _ (Oper.mk _ (Op.store 45 _ _) _ _ _ _ :: _) _ _); go_must (refine wpList_store_row rfl 45 _ _ rfl w.heap.size _ rfl rfl 45 _ R3.out (sizeRp' _ _ _ _ _ _ _ _) rfl (oneRp _ _ _ _ _ _ _ _ _ _ _ _ _ _) ?_))
      refine bodyPost_ret (results_cell_row rfl _ _ w.heap.size 45 _ (0, 0) _ rfl (setRow_heap _ _ _ _ _ _ R3.out) Tryz.underlying45 rfl sizeRp) rfl ?_
      exact OUT.out _ rfl
set_option maxRecDepth 100000 in
set_option maxHeartbeats 8000000 in
theorem takeReply17_flat {w : World} {b : Nat} {s : ByteArray} {st : RS} (h : XRd w b s st) (K : Nat) (hK : K ≤ 12) (h12 : K ≠ 12) (hS : st.val 0 (rdByte st.rest) = 0) :
    Calls Tryz.prog 57 #[.pointer (some ⟨b, 0, none⟩), .int .i64 (K : Int)] w (PPo w b s (dFrs (rflds K) (Part.of 0, st.step (rdByte st.rest)))) := by
  have hbl := h.lt
  have bA := (Below.refl w.heap.size w).alloc (Nat.le_refl _) (.cells #[.int .i64 0, .int .i64 0, .int .i64 0, .int .i64 0, .string ⟨#[]⟩, .slice none 0 0, .slice none 0 0, .slice none 0 0] 45)
  have rA := heap_alloc_new w (.cells #[.int .i64 0, .int .i64 0, .int .i64 0, .int .i64 0, .string ⟨#[]⟩, .slice none 0 0, .slice none 0 0, .slice none 0 0] 45)
  have zA := size_alloc w (.cells #[.int .i64 0, .int .i64 0, .int .i64 0, .int .i64 0, .string ⟨#[]⟩, .slice none 0 0, .slice none 0 0, .slice none 0 0] 45)
  have i1 := xByte_any b s st _ (h.below bA)
  have BA := hid bA
  have RA := hid rA
  obtain ⟨st1, hst⟩ : ∃ st1, Hid (st.step (rdByte st.rest) = st1) := ⟨_, rfl⟩
  rw [hS, hst.out, show ((0 : Nat) : Int) = 0 from rfl] at i1
  rw [hst.out]
  have i2 := fun w => told17_any (K : Int) w
  obtain ⟨P, hP⟩ : ∃ P, Hid (sv (tw (K : Int)) = .string P) := ⟨_, rfl⟩
  rw [hP.out] at i2
  obtain ⟨hPd, hPz⟩ := str_eta17 hP.out
  have LC := hid (fun j hj => lettR_cases hK h12 j hj)
  have HPd := hid hPd
  obtain ⟨hle1, hle2⟩ := rflds_le hK
  have hPs : P.size ≤ 4 := by omega
  have HLE := hid hle1
  have HPz := hid hPz
  clear h bA rA hPd hPz hle1 hle2 hS hK h12
  go_enter Tryz.func57, Tryz.ntmps57
  go_wp2_with (go_at_call 56; fail)
  go_at_call 56
  refine i1.mono ?_
  rintro e w1 ⟨rfl, g1, g2⟩
  have k1 : Keep (fun k => k = b) w w1 := (Keep.ofBelow BA.out : Keep (fun k => k = b) w _).trans (T := fun k => k = b) (Keep.ofBut g2 rfl) (fun _ _ e => e)
  have r1 := ((Keep.ofBut g2 rfl : Keep (fun k => k = b) _ w1).block w.heap.size (by omega) (by omega)).trans RA.out
  have z1 : w.heap.size < w1.heap.size := by have := (Keep.ofBut g2 rfl : Keep (fun k => k = b) _ w1).size; omega
  have b2 := (Below.refl w1.heap.size w1).alloc (Nat.le_refl _) (.cells #[.int .i64 0, .int .i64 0, .int .i64 0, .int .i64 0, .string ⟨#[]⟩, .slice none 0 0, .slice none 0 0, .slice none 0 0] 45)
  have r2 := heap_alloc_new w1 (.cells #[.int .i64 0, .int .i64 0, .int .i64 0, .int .i64 0, .string ⟨#[]⟩, .slice none 0 0, .slice none 0 0, .slice none 0 0] 45)
  have zz2 := size_alloc w1 (.cells #[.int .i64 0, .int .i64 0, .int .i64 0, .int .i64 0, .string ⟨#[]⟩, .slice none 0 0, .slice none 0 0, .slice none 0 0] 45)
  have D0 : Hid (Dq (w1.alloc (.cells #[.int .i64 0, .int .i64 0, .int .i64 0, .int .i64 0, .string ⟨#[]⟩, .slice none 0 0, .slice none 0 0, .slice none 0 0] 45)) (w1.heap.size + 1) b w1.heap.size s (Part.of 0, st1) (.slice none 0 0) (.slice none 0 0) (.slice none 0 0)) := ⟨g1.below b2, r2, by omega, by omega, by omega, nilT _, Nw.nil _ _, nilT _, Nw.nil _ _⟩
  have R2 := hid ((b2.block _ z1).trans r1)
  have K2 : Hid (Keep (fun k => k = b) w (w1.alloc (.cells #[.int .i64 0, .int .i64 0, .int .i64 0, .int .i64 0, .string ⟨#[]⟩, .slice none 0 0, .slice none 0 0, .slice none 0 0] 45))) := k1.trans (T := fun _ => False) (Keep.ofBelow b2) (fun _ _ e => e.elim)
  obtain ⟨c0, c1, c2, c3, c4, c5, c6, c7⟩ := rp_cells (x := Part.of (0)) (P := ⟨#[]⟩) r2
  simp only [Part.of] at c0 c1 c2 c3
  have HZ2 := hid zz2
  clear g1 g2 k1 r1 b2 r2 i1 zz2
  go_wp2_with (go_at_call 42; refine (i2 _).mono ?_; rintro e w' ⟨rfl, hw'⟩; rw [hw']; clear hw' w')
  clear c0 c1 c2 c3 c4 c5 c6 c7
  obtain ⟨W2, hW2⟩ : ∃ W2, Hid (w1.alloc (.cells #[.int .i64 0, .int .i64 0, .int .i64 0, .int .i64 0, .string ⟨#[]⟩, .slice none 0 0, .slice none 0 0, .slice none 0 0] 45) = W2) := ⟨_, rfl⟩
  rw [hW2.out] at D0 R2 K2 HZ2 ⊢
  generalize w1.heap.size = d at *
  go_loopw [7] (fun i w' => ∃ k : Nat, k ≤ P.size ∧ i = .int .i64 k ∧ Hid (DPq W2 (d + 1) b d s (dFrs ((rflds K).take k) (Part.of 0, st1)) (.slice none 0 0) w')) (fun i _ => P.size - (intOf i).toNat)
  case atStart => exact ⟨0, by omega, rfl, hid ⟨_, _, D0.out, Keep.refl _ _⟩⟩
  case round =>
    obtain ⟨k, hk, rfl, hD⟩ := hrel
    by_cases hlt : k < P.size
    · have b0 : (k : Int) < (P.size : Int) := by omega
      obtain ⟨xb, hxb, hx2, hi1, hi2⟩ := index_any P (k : Int) k rfl hlt
      obtain ⟨vh, ve, D1, D2⟩ := hD.out
      have hsz := D2.size
      have hkl : k < (tw (K : Int)).length := by have := HPz.out; omega
      have hxe : xb = ((tw (K : Int))[k]).toNat := by
        rw [hxb.out, HPd.out, List.getD_eq_getElem?_getD, List.getElem?_eq_getElem hkl]; rfl
      have hst0 := dFrs_status ((rflds K).take k) (Part.of 0, st1)
      rcases LC.out k hkl with ⟨hl, hc, hna⟩ | ⟨hc, hfl⟩
      · rw [hc] at hxe
        have hsn := dFrs_snoc (rflds K) k hl (Part.of 0, st1)
        have HS := hid hsn
        generalize dFrs ((rflds K).take k) (Part.of 0, st1) = p at *
        generalize (rflds K)[k] = g at *
        have y0 : (p.1.status == 0) = true := by rw [hst0]; rfl
        have d0 : wr.cell? ⟨d, 0, none⟩ = some (.int .i64 p.1.status) := by rw [cell_of_row _ _ _ _ _ _ D1.row]; rfl
        clear hsn hc hxb hkl hst0
        subst hxe
        have DD := hid D1
        have KK := hid D2
        have hBsz : d + 1 ≤ wr.heap.size := by have := HZ2.out; omega
        cases g with
        | size =>
          have i3 := xNum_any b s p.2 wr D1.rd
          go_wp2_with (go_at_call 84; refine i3.mono ?_; rintro e w3 ⟨rfl, g1, g2⟩; have R3 := DD.out.row2 g2; have e0 : w3.cell? ⟨d, 1, none⟩ = some (.int .i64 p.1.size) := (by rw [cell_of_row _ _ _ _ _ _ R3]; rfl); have f0 : w3.frozen? ⟨d, 1, none⟩ = false := frozen_of_row _ _ _ _ _ R3; have G1 := hid g1; have G2 := hid g2; clear g1 g2 R3)
          have HN : Hid (DPq W2 (d + 1) b d s (dFrs ((rflds K).take (k + 1)) (Part.of 0, st1)) (.slice none 0 0) (w3.setCell ⟨d, 1, none⟩ (.int .i64 ((p.2.val 0 (rdNum p.2.rest) : Nat) : Int)))) := by
            rw [HS.out]
            exact DPq.step KK.out (DD.out.put G2.out G1.out 1 _ rfl (DD.out.o1 G2.out) (DD.out.o2 G2.out))
          exact ⟨⟨k + 1, by omega, by go_num, HN⟩, by simp [intOf]; omega⟩
        | a =>
          have i3 := xNum_any b s p.2 wr D1.rd
          go_wp2_with (go_at_call 84; refine i3.mono ?_; rintro e w3 ⟨rfl, g1, g2⟩; have R3 := DD.out.row2 g2; have e0 : w3.cell? ⟨d, 2, none⟩ = some (.int .i64 p.1.a) := (by rw [cell_of_row _ _ _ _ _ _ R3]; rfl); have f0 : w3.frozen? ⟨d, 2, none⟩ = false := frozen_of_row _ _ _ _ _ R3; have G1 := hid g1; have G2 := hid g2; clear g1 g2 R3)
          have HN : Hid (DPq W2 (d + 1) b d s (dFrs ((rflds K).take (k + 1)) (Part.of 0, st1)) (.slice none 0 0) (w3.setCell ⟨d, 2, none⟩ (.int .i64 ((p.2.val 0 (rdNum p.2.rest) : Nat) : Int)))) := by
            rw [HS.out]
            exact DPq.step KK.out (DD.out.put G2.out G1.out 2 _ rfl (DD.out.o1 G2.out) (DD.out.o2 G2.out))
          exact ⟨⟨k + 1, by omega, by go_num, HN⟩, by simp [intOf]; omega⟩
        | over =>
          have i3 := xByte_any b s p.2 wr D1.rd
          go_wp2_with (go_at_call 56; refine i3.mono ?_; rintro e w3 ⟨rfl, g1, g2⟩; have R3 := DD.out.row2 g2; have e0 : w3.cell? ⟨d, 3, none⟩ = some (.int .i64 p.1.b) := (by rw [cell_of_row _ _ _ _ _ _ R3]; rfl); have f0 : w3.frozen? ⟨d, 3, none⟩ = false := frozen_of_row _ _ _ _ _ R3; have G1 := hid g1; have G2 := hid g2; clear g1 g2 R3)
          have HN : Hid (DPq W2 (d + 1) b d s (dFrs ((rflds K).take (k + 1)) (Part.of 0, st1)) (.slice none 0 0) (w3.setCell ⟨d, 3, none⟩ (.int .i64 ((p.2.val 0 (rdByte p.2.rest) : Nat) : Int)))) := by
            rw [HS.out]
            exact DPq.step KK.out (DD.out.put G2.out G1.out 3 _ rfl (DD.out.o1 G2.out) (DD.out.o2 G2.out))
          exact ⟨⟨k + 1, by omega, by go_num, HN⟩, by simp [intOf]; omega⟩
        | root =>
          have i3 := xRaw_any b s p.2 32 wr (by omega) D1.rd
          obtain ⟨PV, hPV⟩ := pstr (p.2.val [] (rdRaw p.2.rest 32))
          rw [hPV.out.1] at i3
          go_wp2_with (go_at_call 89; refine i3.mono ?_; rintro e w3 ⟨rfl, g1, g2⟩; have R3 := DD.out.row2 g2; have e0 : w3.cell? ⟨d, 4, none⟩ = some (sv p.1.root) := (by rw [cell_of_row _ _ _ _ _ _ R3]; rfl); have f0 : w3.frozen? ⟨d, 4, none⟩ = false := frozen_of_row _ _ _ _ _ R3; have G1 := hid g1; have G2 := hid g2; clear g1 g2 R3)
          have HN : Hid (DPq W2 (d + 1) b d s (dFrs ((rflds K).take (k + 1)) (Part.of 0, st1)) (.slice none 0 0) (w3.setCell ⟨d, 4, none⟩ (.string PV))) := by
            rw [HS.out, ← hPV.out.1]
            exact DPq.step KK.out (DD.out.put (p' := dFr .root p) G2.out G1.out 4 _ rfl (DD.out.o1 G2.out) (DD.out.o2 G2.out))
          exact ⟨⟨k + 1, by omega, by go_num, HN⟩, by simp [intOf]; omega⟩
        | hashes =>
          have i3 := xHashes_any b s p.2 32768 wr D1.rd
          go_wp2_with (go_at_call 90; fail)
          go_at_call 90
          refine i3.mono ?_
          rintro e w3 ⟨v, rfl, g0, g1, g2⟩
          have R3 := DD.out.row2 g2
          have e0 : w3.cell? ⟨d, 5, none⟩ = some vh := by rw [cell_of_row _ _ _ _ _ _ R3]; rfl
          have f0 : w3.frozen? ⟨d, 5, none⟩ = false := frozen_of_row _ _ _ _ _ R3
          have hs := own_slc g0
          have hn := (nw_of g0).mono (lo' := d + 1) (hi' := w3.heap.size) hBsz (Nat.le_refl _)
          obtain ⟨v1, v2, hv, _⟩ := id hs
          subst hv
          have HSs := hid hs
          have HNn := hid hn
          have G1 := hid g1
          have G2 := hid g2
          clear g0 g1 g2 R3 hs hn
          go_wp2
          have HN : Hid (DPq W2 (d + 1) b d s (dFrs ((rflds K).take (k + 1)) (Part.of 0, st1)) (.slice none 0 0) (w3.setCell ⟨d, 5, none⟩ (.slice v1 (p.2.val [] (rdHashes p.2.rest 32768)).length v2))) := by
            rw [HS.out]
            exact DPq.step KK.out (DD.out.put (p' := dFr .hashes p) G2.out G1.out 5 _ rfl ⟨HSs.out, HNn.out⟩ (DD.out.o2 G2.out))
          exact ⟨⟨k + 1, by omega, by go_num, HN⟩, by simp [intOf]; omega⟩
        | entries =>
          have i3 := xTexts_any b s p.2 4096 1000 wr D1.rd
          go_wp2_with (go_at_call 83; fail)
          go_at_call 83
          refine i3.mono ?_
          rintro e w3 ⟨v, rfl, g0, g1, g2⟩
          have R3 := DD.out.row2 g2
          have e0 : w3.cell? ⟨d, 6, none⟩ = some ve := by rw [cell_of_row _ _ _ _ _ _ R3]; rfl
          have f0 : w3.frozen? ⟨d, 6, none⟩ = false := frozen_of_row _ _ _ _ _ R3
          have hs := own_slc g0
          have hn := (nw_of g0).mono (lo' := d + 1) (hi' := w3.heap.size) hBsz (Nat.le_refl _)
          obtain ⟨v1, v2, hv, _⟩ := id hs
          subst hv
          have HSs := hid hs
          have HNn := hid hn
          have G1 := hid g1
          have G2 := hid g2
          clear g0 g1 g2 R3 hs hn
          go_wp2
          have HN : Hid (DPq W2 (d + 1) b d s (dFrs ((rflds K).take (k + 1)) (Part.of 0, st1)) (.slice none 0 0) (w3.setCell ⟨d, 6, none⟩ (.slice v1 (p.2.val [] (rdTexts p.2.rest 4096 1000)).length v2))) := by
            rw [HS.out]
            exact DPq.step KK.out (DD.out.put (p' := dFr .entries p) G2.out G1.out 6 _ rfl (DD.out.o1 G2.out) ⟨HSs.out, HNn.out⟩)
          exact ⟨⟨k + 1, by omega, by go_num, HN⟩, by simp [intOf]; omega⟩
        | parts => exact absurd rfl hna
      · have HN : Hid (DPq W2 (d + 1) b d s (dFrs ((rflds K).take (k + 1)) (Part.of 0, st1)) (.slice none 0 0) wr) := by
          have := hD.out
          rw [hfl] at this ⊢
          rw [List.take_nil] at this ⊢
          exact this
        generalize dFrs ((rflds K).take k) (Part.of 0, st1) = p at *
        have y0 : (p.1.status == 0) = true := by rw [hst0]; rfl
        have d0 : wr.cell? ⟨d, 0, none⟩ = some (.int .i64 p.1.status) := by rw [cell_of_row _ _ _ _ _ _ D1.row]; rfl
        rcases hc with hc | hc
        · rw [hc] at hxe
          subst hxe
          clear hc hxb hkl D1 D2 hst0
          go_wp2
          exact ⟨⟨k + 1, by omega, by go_num, HN⟩, by simp [intOf]; omega⟩
        · rw [hc] at hxe
          subst hxe
          clear hc hxb hkl D1 D2 hst0
          go_wp2
          exact ⟨⟨k + 1, by omega, by go_num, HN⟩, by simp [intOf]; omega⟩
    · have b0 : ¬ (k : Int) < (P.size : Int) := by omega
      obtain rfl : k = P.size := by omega
      have hfl : (rflds K).take P.size = rflds K := List.take_of_length_le (by rw [HPz.out]; exact HLE.out)
      have HD := hD
      rw [hfl] at HD
      have HN0 : Hid ((dFrs (rflds K) (Part.of 0, st1)).1.n = 0) := by show _ = _; rw [dFrs_n]; rfl
      generalize dFrs (rflds K) (Part.of 0, st1) = p at *
      clear hfl hD
      obtain ⟨vh, ve, D1, D2⟩ := HD.out
      obtain ⟨PS, hPS⟩ := pstr (p).1.root
      have rw_ := D1.row
      rw [hPS.out.1] at rw_
      obtain ⟨a1, n1, e1, _⟩ := id D1.s1
      obtain ⟨a2, n2, e2, _⟩ := id D1.s2
      subst e1 e2
      obtain ⟨d0, d1, d2, d3, d4, d5, d6, d7⟩ := rp_cells rw_
      have R3 := hid ((D2.block w.heap.size (by have := HZ2.out; omega) (by omega)).trans R2.out)
      obtain ⟨_, _, OUT⟩ : ∃ (_ : True) (_ : True), Hid (∀ cs, #[Value.int .i64 (p).1.status, .int .i64 (p).1.size, .int .i64 (p).1.a, .int .i64 (p).1.b, .string PS, .slice a1 (p).1.hs.length n1, .slice a2 (p).1.ent.length n2, .slice none 0 0] = cs → PPo w b s (p) (.returned (.agg cs)) (wr.setRow w.heap.size cs)) := ⟨trivial, trivial, fun cs hcs => by
        have k1 : Keep (fun k => k = w.heap.size) wr (wr.setRow w.heap.size cs) := ⟨rfl, rfl, rfl, by rw [setRow_size]; exact Nat.le_refl _, fun k _ hk => setRow_other wr _ k _ hk⟩
        have hS : ∀ k, d + 1 ≤ k → k < wr.heap.size → ¬ k = w.heap.size := fun k k1 _ e => by omega
        have hle : wr.heap.size ≤ (wr.setRow w.heap.size cs).heap.size := k1.size
        refine ⟨_, _, by (rw [rpV, hPS.out.1, ← hcs]; try rfl), D1.n1.slc D1.s1 k1 hS, D1.n1.mono (by omega) hle, D1.n2.slc D1.s2 k1 hS, D1.n2.mono (by omega) hle, HN0.out, D1.rd.keep k1 (by omega), ?_⟩
        refine (K2.out.trans D2 fun j hj e => ?_).trans k1 fun j hj e => ?_
        · rcases e with e | e
          · exact e
          · omega
        · omega⟩
      clear D1 D2 rw_ HD
      go_wp2_with ((with_reducible show wpList _ _ _ (Oper.mk _ (Op.store 45 _ _) _ _ _ _ :: _) _ _); go_must (refine wpList_store_row rfl 45 _ _ rfl w.heap.size _ rfl rfl 45 _ R3.out (sizeRp' _ _ _ _ _ _ _ _) rfl (oneRp _ _ _ _ _ _ _ _ _ _ _ _ _ _) ?_))
      refine bodyPost_ret (results_cell_row rfl _ _ w.heap.size 45 _ (0, 0) _ rfl (setRow_heap _ _ _ _ _ _ R3.out) Tryz.underlying45 rfl sizeRp) rfl ?_
      exact OUT.out _ rfl
end Msg
end Go.Proofs.YtmhgdcfmfcjagaaGreatDoor
