import Derived.Test.YteilkpihddfpeaaGreatDoorPkMVF
import Derived.Test.YteilkpihddfpeaaGreatDoorPkMV7
import Derived.Test.YteilkpihddfpeaaGreatDoorPkMX1
namespace Go.Proofs.YteilkpihddfpeaaGreatDoor
open Go.RowKit Cod
namespace Msg

set_option maxRecDepth 100000 in
set_option maxHeartbeats 2000000 in
theorem g_partsA {w : World} {base b c d : Nat} {v : Value} {s : LS} {x : Part} {uh ue up : Value} {t : Part} {th te tp : Value} {l : List Part} (h : Pa w base b c d v s x uh ue up t th te tp) (hu : Pq w base up l) (hn : x.n = l.length) (hg : ∀ x ∈ l, PFit x) (hm : Sm s 29000000000000) :
    Calls Tryz.prog 48 #[.pointer (some ⟨d, 0, none⟩)] w fun e w' => e = .returned (.tuple #[]) ∧ GPost w base b c d v (lFr x (lParts l) .parts s) x uh ue up (setR x .parts t) w' := by
  have i1 := layParts_any h.ly.drew (hu.bl (Below.refl base w).drew) hg hm
  obtain ⟨p1, q1, rfl⟩ := hu.shape
  have c0 : w.cell? ⟨d, 0, none⟩ = some (lay c) := by rw [cell_of_row _ _ _ _ _ _ h.row]; rfl
  have c4 : w.cell? ⟨d, 8, none⟩ = some (.slice p1 l.length q1) := by rw [cell_of_row _ _ _ _ _ _ h.row]; rfl
  rw [lay] at c0
  have mm := m_laying_parts ⟨c, 0, none⟩
  have HQ := hid h
  have HN := hid hn
  clear h hm hu hn hg
  go_enter Tryz.func48, Tryz.ntmps48
  go_region_held3 (fun w' => w'.cell? ⟨d, 0, none⟩ = some (.iface 72 (.pointer (some ⟨c, 0, none⟩))) ∧ w'.cell? ⟨d, 8, none⟩ = some (.slice p1 l.length q1)) (first | exact ⟨c0, c4⟩ | exact S2 | exact S3) (first | (go_at_call 89; (with_reducible refine i1.mono ?_); rintro e w2 ⟨rfl, hl⟩; have hl := hl.drew; have hrow := HQ.out.row2 hl; have g0 : w2.frozen? ⟨d, 16, none⟩ = false := frozen_of_row _ _ _ _ _ hrow; have e0 : w2.cell? ⟨d, 16, none⟩ = some tp := (by rw [cell_of_row _ _ _ _ _ _ hrow]; rfl); have S2 : w2.cell? ⟨d, 0, none⟩ = some (lay c) ∧ w2.cell? ⟨d, 8, none⟩ = some (.slice p1 l.length q1) := ⟨by rw [cell_of_row _ _ _ _ _ _ hrow]; rfl, by rw [cell_of_row _ _ _ _ _ _ hrow]; rfl⟩; have hrow3 := row_set 16 (.slice p1 l.length q1) hrow rfl; have S3 : (w2.setCell ⟨d, 16, none⟩ (.slice p1 l.length q1)).cell? ⟨d, 0, none⟩ = some (lay c) ∧ (w2.setCell ⟨d, 16, none⟩ (.slice p1 l.length q1)).cell? ⟨d, 8, none⟩ = some (.slice p1 l.length q1) := ⟨by rw [cell_of_row _ _ _ _ _ _ hrow3]; rfl, by rw [cell_of_row _ _ _ _ _ _ hrow3]; rfl⟩; rw [lay] at S2 S3; have HL := hid hl; clear hl hrow hrow3))
  go_end0
  exact ⟨rfl, HQ.out.put HL.out 16 _ _ _ _ _ rfl HQ.out.t1 HQ.out.t2 ⟨p1, q1, by rw [show (setR x .parts t).n = x.n from rfl, HN.out]⟩⟩
/-- a reply on its way: what is laid down, what has come across -/
def rS (K : Nat) (x : Part) (l : List Part) (s : LS) : LS := if isDn x.status (leastOf (K : Int)) = true then lFrs x (lParts l) (rflds K) (lMark x.status (leastOf (K : Int)) 8 (lMark (K : Int) (K : Int) (K : Int) s)) else lMark x.status (leastOf (K : Int)) 8 (lMark (K : Int) (K : Int) (K : Int) s)
def rT (K : Nat) (x : Part) : Part := if isDn x.status (leastOf (K : Int)) = true then setRs x (rflds K) (Part.of 0) else Part.of (stB x.status (leastOf (K : Int)))
theorem lReply_eq (K : Nat) (x : Part) (l : List Part) (s : LS) : lReply (K : Int) x l s = ((rS K x l s).1, (rS K x l s).2 || !wholeP x (rT K x)) := by
  rw [lReply, Int.toNat_natCast, lTail, rS, rT]
  split <;> rfl
theorem payR_any {w : World} {base b c d : Nat} {v : Value} {s : LS} {x : Part} {uh ue up : Value} {l : List Part} (h : Pa w base b c d v s x uh ue up Part.zero (.slice none 0 0) (.slice none 0 0) (.slice none 0 0)) (K : Nat) (hK : K ≤ 12) (hf : PFit x) (hm : Sm s 1000000000000)
    (hu : Pq w base up l) (hn : x.n = l.length) (hg : ∀ x ∈ l, PFit x) :
    Calls Tryz.prog 30 #[.pointer (some ⟨d, 0, none⟩), .int .i64 (K : Int)] w fun e w' => e = .returned (.tuple #[]) ∧ GPost w base b c d v (rS K x l s) x uh ue up (rT K x) w' := by
  cases hd : isDn x.status (leastOf (K : Int)) with
  | true =>
    have h0 := isDn_zero hd
    have hK1 : 1 ≤ K := by
      rcases Nat.eq_zero_or_pos K with e | e
      · subst e
        rw [isDn, h0] at hd
        exact absurd hd (by decide)
      · exact e
    rw [rS, rT, if_pos hd, if_pos hd, h0, least_pos hK1]
    have key : ∀ {K0 M : Nat}, 68719476736 ≤ K0 → 1000000000000 + 2 + ((rflds K).length - 1) * K0 ≤ M → (∀ g ∈ rflds K, GC w M base b c d x uh ue up (lParts l) g) → (.parts ∈ rflds K → ∀ s m, Sm s m → Sm (lParts l s) (m + K0)) → _ := fun a1 a2 a3 a4 => payR_done h hf hm (by omega) K hK1 hK h0 a1 a2 (lParts l) a3 a4
    by_cases h12 : K = 12
    · have hfl : rflds K = [.parts] := by rw [h12]; rfl
      refine key (K0 := 27487790694400) (M := 29000000000000) (by omega) (by rw [hfl]; decide) (fun g hgm => ?_) (fun _ s m hs => ?_)
      · rw [hfl, List.mem_singleton] at hgm
        subst hgm
        intro w' v' s' t th te tp hb hQ hS
        exact g_partsA hQ (hu.bl hb) hn hg hS
      · rw [lParts]
        split
        · rename_i u3
          have hle := (wi_iff.1 u3).2
          have h9 : (digs (l.length : Int).toNat).length ≤ 9 := digs_len9 (by omega)
          have h5 : Sm (lNum (l.length : Int) s) (m + 9) := (hs.lif _ _ _).mono (by omega)
          have := sm_partsA l hg h5
          exact this.mono (by have : l.length ≤ 64 := (by omega); have := Nat.mul_le_mul_right 343597383680 this; omega)
        · exact (show Sm (s.1, true) _ from fun bs e => hs bs e).mono (by omega)
    · refine key (K0 := 68719476736) (M := 29000000000000) (by omega) (by have := rflds_len K; have : ((rflds K).length - 1) * 68719476736 ≤ 3 * 68719476736 := Nat.mul_le_mul_right _ (by omega); omega) (fun g hgm => gc_six (by omega) hf g (fun e => h12 (parts12 hK (e ▸ hgm)))) (fun e => absurd (parts12 hK e) h12)
  | false =>
    have hn : ¬ isDn x.status (leastOf (K : Int)) = true := by rw [hd]; exact Bool.false_ne_true
    rw [rS, rT, if_neg hn, if_neg hn]
    exact payR_stop h hm (by omega) K hd
set_option maxRecDepth 100000 in
set_option maxHeartbeats 4000000 in
theorem replyL_any {w : World} {base b c : Nat} {v : Value} {s : LS} {x : Part} {p1 p2 p3 : Option Addr} {q1 q2 q3 : Nat} {l : List Part} (h : Ly w base b c v s) (hx : Ap w base x (.slice p1 x.hs.length q1) (.slice p2 x.ent.length q2) (.slice p3 x.n q3)) (K : Nat) (hK : K ≤ 12) (hf : PFit x) (hm : Sm s 1000000000000)
    (hu : Pq w base (.slice p3 x.n q3) l) (hn : x.n = l.length) (hg : ∀ x ∈ l, PFit x) :
    Calls Tryz.prog 17 #[.pointer (some ⟨c, 0, none⟩), .int .i64 (K : Int), .agg #[.int .i64 x.status, .int .i64 x.size, .int .i64 x.a, .int .i64 x.b, .string ⟨x.root.toArray⟩, .slice p1 x.hs.length q1, .slice p2 x.ent.length q2, .slice p3 x.n q3]] w fun e w' => e = .returned (.tuple #[]) ∧ Lo w base b c v (lReply (K : Int) x l s) w' := by
  have bA := ((Below.refl w.heap.size w).alloc (Nat.le_refl _) (.cells #[.int .i64 x.status, .int .i64 x.size, .int .i64 x.a, .int .i64 x.b, .string ⟨x.root.toArray⟩, .slice p1 x.hs.length q1, .slice p2 x.ent.length q2, .slice p3 x.n q3] 26)).alloc (by rw [size_alloc]; omega) (.cells (rpArr (lay c) x (.slice p1 x.hs.length q1) (.slice p2 x.ent.length q2) (.slice p3 x.n q3) Part.zero (.slice none 0 0) (.slice none 0 0) (.slice none 0 0)) 76)
  have hP := pa_new (d := w.heap.size + 1) h hx bA (heap_alloc_at _ _ _ (size_alloc _ _)) (by omega)
  have i4 := payR_any (l := l) hP K hK hf hm (hu.bl (bA.mono h.base)) hn hg
  have N := hid (fun w4 v2 w5 => lo_end (d := w.heap.size + 1) (w2 := w4) (v' := v2) (w4 := w5) (base := base) (b := b) (c := c) (v := v) (s2 := ((rS K x l s).1, (rS K x l s).2 || !wholeP x (rT K x))) bA (by omega))
  rw [lReply_eq]
  obtain ⟨r, hr⟩ : ∃ r, Hid (wholeP x (rT K x) = r) := ⟨_, rfl⟩
  rw [hr.out] at N ⊢
  generalize rS K x l s = s9 at *
  simp only [lay, rpArr, Part.zero, sv] at i4 N
  clear h hx bA hP hu hm hg hn hf
  go_enter Tryz.func17, Tryz.ntmps17
  go_wp2_with (first
    | (go_at_call 30; refine i4.mono ?_; rintro e w4 ⟨rfl, v2, th, te, tp, j1, j2, j3⟩; have i5 := wholeP_anyT j1; rw [hr.out] at i5; have i6 := takes_any r w4.drew j1.ly.drew; have J2 := hid j2; have J3 := hid j3; clear j1 j2 j3)
    | (go_at_call 32; refine i5.mono ?_; rintro e w5 ⟨rfl, rfl⟩)
    | (go_at_call 31; refine i6.mono ?_; rintro e w6 ⟨rfl, j4, j5⟩; have N1 := hid (N.out _ _ _ J2.out J3.out j4 j5); clear j4 j5))
  go_end0
  exact ⟨rfl, N1.out⟩
end Msg
end Go.Proofs.YteilkpihddfpeaaGreatDoor

namespace Go.Proofs.YteilkpihddfpeaaGreatDoor
open Go.RowKit Cod
namespace Msg

theorem nz_fr (x : Part) (db : LS → LS) (hd : NzL db) (g : Fr) : NzL (lFr x db g) := by
  cases g with
  | size => exact nz_lif _ _ _
  | a => exact nz_lif _ _ _
  | over => exact nz_lif _ _ _
  | root => exact nz_lif _ _ _
  | hashes => exact nz_lif _ _ _
  | parts => exact hd
  | entries => exact nz_lif _ _ _
theorem nz_frs (x : Part) (db : LS → LS) (hd : NzL db) (fs : List Fr) : NzL (lFrs x db fs) := nz_fold (fun g s => lFr x db g s) (fun g => nz_fr x db hd g) fs
theorem nz_tail (x : Part) (least : Int) (L : LS → LS) (hL : NzL L) (t : Part) : NzL (lTail x least L t) := fun s h f hf => by
  have hm : Nzs (lMark x.status least 8 s) := nz_lif _ _ _ s h
  rw [lTail] at hf
  split at hf
  · exact hL _ hm f hf
  · exact hm f hf
theorem nz_part (x : Part) : NzL (lPart x) := nz_tail x 0 _ ((nz_lif _ _ _).comp (nz_frs x id NzL.id (fmF x))) _
theorem nz_parts (l : List Part) : NzL (lParts l) := fun s h f hf => by
  rw [lParts] at hf
  split at hf
  · exact nz_fold (fun x s => lPart x s) (fun x => nz_part x) l _ (nz_lif _ _ _ s h) f hf
  · exact h f hf
theorem nz_reply (K : Int) (x : Part) (l : List Part) : NzL (lReply K x l) := (nz_lif _ _ _).comp (nz_tail x _ _ (nz_frs x (lParts l) (nz_parts l) _) _)
/-- a reply that may be handed to EncodeReply, whatever it is -/
structure Rq0 (w : World) (x : Part) (l : List Part) (uh ue up : Value) : Prop where
  ak : Ap w w.heap.size x uh ue up
  ft : PFit x
  ls : Pq w w.heap.size up l
  ln : x.n = l.length
  lf : ∀ x ∈ l, PFit x
set_option maxRecDepth 100000 in
set_option maxHeartbeats 2000000 in
theorem encodeReply_in {w : World} {K : Nat} {x : Part} {l : List Part} {uh ue up : Value} (T : Lay w) (hK : K ≤ 12) (h : Rq0 w x l uh ue up) :
    Calls Tryz.prog 6 #[.int .i64 (K : Int), rpV x uh ue up] w fun e w' => e = .returned (frO (lReply (K : Int) x l (.ok [], false))) ∧ Below w.heap.size w w' := by
  obtain ⟨p1, q1, rfl, _⟩ := id h.ak.s1
  obtain ⟨p2, q2, rfl, _⟩ := id h.ak.s2
  obtain ⟨p3, q3, rfl⟩ := id h.ak.s3
  have hT := T.lt
  have H := hid h
  have HT := hid T
  have hw : wi (K : Int) 0 12 = true := wi_iff.2 ⟨by omega, by omega⟩
  clear h T
  have HN := hid (nz_reply (K : Int) x l _ nz_nil)
  obtain ⟨s9, hs9⟩ : ∃ s9, Hid (lReply (K : Int) x l (.ok [], false) = s9) := ⟨_, rfl⟩
  rw [hs9.out] at HN ⊢
  obtain ⟨z9, hz9⟩ : ∃ z9, Hid (frO s9 = z9) := ⟨_, rfl⟩
  rw [hz9.out]
  have hz9s : ∃ (t : Array UInt8) (n : Int), z9 = .tuple #[.string ⟨t⟩, .int .i64 n] := by
    rw [← hz9.out, frO]
    split
    · split <;> exact ⟨_, _, rfl⟩
    · exact ⟨_, _, rfl⟩
  obtain ⟨t9, n9, rfl⟩ := hz9s
  rw [rpV, show sv x.root = .string ⟨x.root.toArray⟩ from rfl]
  go_enter Tryz.func6, Tryz.ntmps6
  go_wp2_with (first
    | (go_at_call 15; refine (within_any _ _ _ _).mono ?_; rw [hw]; rintro e w' ⟨rfl, hw'⟩; rw [hw']; clear hw' w')
    | (go_at_call 16; fail))
  obtain ⟨w1, hw1⟩ : ∃ w1, Hid (w.alloc (.cells #[.int .i64 x.status, .int .i64 x.size, .int .i64 x.a, .int .i64 x.b, .string ⟨x.root.toArray⟩, .slice p1 x.hs.length q1, .slice p2 x.ent.length q2, .slice p3 x.n q3] 26) = w1) := ⟨_, rfl⟩
  have b1 : Below w.heap.size w w1 := by rw [← hw1.out]; exact (Below.refl _ _).alloc (Nat.le_refl _) _
  have r1 : w1.heap[w.heap.size]? = some (.cells #[.int .i64 x.status, .int .i64 x.size, .int .i64 x.a, .int .i64 x.b, .string ⟨x.root.toArray⟩, .slice p1 x.hs.length q1, .slice p2 x.ent.length q2, .slice p3 x.n q3] 26 (0, 0)) := by rw [← hw1.out]; exact heap_alloc_new _ _
  have z1 : w1.heap.size = w.heap.size + 1 := by rw [← hw1.out]; exact size_alloc _ _
  rw [hw1.out]
  go_at_call 16
  refine (newWriter_any w1).mono ?_
  rintro e w2 ⟨rfl, n1, n2, n3⟩
  obtain ⟨w3, hw3⟩ : ∃ w3, Hid (w2.alloc (.cells #[.pointer (some ⟨w1.heap.size, 0, none⟩), .bool false] 52) = w3) := ⟨_, rfl⟩
  have b3 : Below w2.heap.size w2 w3 := by rw [← hw3.out]; exact (Below.refl _ _).alloc (Nat.le_refl _) _
  have hr3 : w3.heap[w2.heap.size]? = some (.cells #[.pointer (some ⟨w1.heap.size, 0, none⟩), .bool false] 52 (0, 0)) := by rw [← hw3.out]; exact heap_alloc_new _ _
  have bb : Below w.heap.size w w3 := b1.trans ((n2.mono (by omega)).trans (b3.mono (by have := n2.size; omega)))
  have hY : Ly w3 w1.heap.size w1.heap.size w2.heap.size (.slice none 0 0) (.ok [], false) := ⟨hr3, n1.below b3, by omega, fun e => (by cases e), n2.size⟩
  have r3 : w2.heap[w.heap.size]? = some (.cells #[.int .i64 x.status, .int .i64 x.size, .int .i64 x.a, .int .i64 x.b, .string ⟨x.root.toArray⟩, .slice p1 x.hs.length q1, .slice p2 x.ent.length q2, .slice p3 x.n q3] 26 (0, 0)) := (n2.block _ (by omega)).trans r1
  have c0 : w2.cell? ⟨w.heap.size, 0, none⟩ = some (.int .i64 x.status) := by rw [cell_of_row _ _ _ _ _ _ r3]; rfl
  have c1 : w2.cell? ⟨w.heap.size, 1, none⟩ = some (.int .i64 x.size) := by rw [cell_of_row _ _ _ _ _ _ r3]; rfl
  have c2 : w2.cell? ⟨w.heap.size, 2, none⟩ = some (.int .i64 x.a) := by rw [cell_of_row _ _ _ _ _ _ r3]; rfl
  have c3 : w2.cell? ⟨w.heap.size, 3, none⟩ = some (.int .i64 x.b) := by rw [cell_of_row _ _ _ _ _ _ r3]; rfl
  have c4 : w2.cell? ⟨w.heap.size, 4, none⟩ = some (.string ⟨x.root.toArray⟩) := by rw [cell_of_row _ _ _ _ _ _ r3]; rfl
  have c5 : w2.cell? ⟨w.heap.size, 5, none⟩ = some (.slice p1 x.hs.length q1) := by rw [cell_of_row _ _ _ _ _ _ r3]; rfl
  have c6 : w2.cell? ⟨w.heap.size, 6, none⟩ = some (.slice p2 x.ent.length q2) := by rw [cell_of_row _ _ _ _ _ _ r3]; rfl
  have c7 : w2.cell? ⟨w.heap.size, 7, none⟩ = some (.slice p3 x.n q3) := by rw [cell_of_row _ _ _ _ _ _ r3]; rfl
  have hm0 : Sm (WSt.ok [], false) 1000000000000 := fun bs e => by injection e with e; subst e; simp
  have i1 := replyL_any (l := l) hY ((H.out.ak.bl bb).mono (by omega : w.heap.size ≤ w1.heap.size)) K hK H.out.ft hm0 ((H.out.ls.bl bb).mono (by omega)) H.out.ln H.out.lf
  rw [hs9.out] at i1
  have HY := hid hY
  have BB := hid bb
  have HT3 : Hid (Lay w3) := HT.out.below bb hT
  have hT1 : 1 ≤ w1.heap.size := by omega
  have hle : w.heap.size ≤ w1.heap.size := by omega
  have hlt2 : w.heap.size < w2.heap.size := by have := n2.size; omega
  have hne2 : ¬ w.heap.size = w2.heap.size := by omega
  clear n1 n2 n3 b1 b3 r1 z1 r3 hr3 hY bb hm0
  rw [← hw3.out] at i1
  go_wp2_with (first
    | (go_at_call 17; refine i1.mono ?_; rintro e w5 ⟨rfl, hlo⟩; rw [hw3.out] at hlo; obtain ⟨v', y1, y2, y3⟩ := hlo; have bl5 := Lo.bl HY.out y2; have i2 := frameL_any y1 (HT3.out.below bl5 hT1) HN.out; rw [hz9.out] at i2; have B5 := hid (BB.out.trans (bl5.mono hle)); clear y1 y2 y3 bl5)
    | (go_at_call 18; refine i2.mono ?_; rintro e w6 ⟨rfl, h6⟩; have B6 := hid (B5.out.trans (h6.mono B5.out.size)); clear h6))
  go_ret2
  exact ⟨rfl, B6.out⟩
set_option maxRecDepth 100000 in
set_option maxHeartbeats 2000000 in
theorem encodeReply_kind {w : World} {k : Int} {x : Part} {uh ue up : Value} (hk : wi k 0 12 = false) (h1 : ∃ p n q, uh = .slice p n q) (h2 : ∃ p n q, ue = .slice p n q) (h3 : ∃ p n q, up = .slice p n q) :
    Calls Tryz.prog 6 #[.int .i64 k, rpV x uh ue up] w fun e w' => e = .returned (.tuple #[sv [], .int .i64 170]) ∧ Below w.heap.size w w' := by
  obtain ⟨p1, n1, q1, rfl⟩ := h1
  obtain ⟨p2, n2, q2, rfl⟩ := h2
  obtain ⟨p3, n3, q3, rfl⟩ := h3
  rw [rpV, show sv x.root = .string ⟨x.root.toArray⟩ from rfl]
  go_enter Tryz.func6, Tryz.ntmps6
  go_wp2_with (first
    | (go_at_call 15; refine (within_any _ _ _ _).mono ?_; rw [hk]; rintro e w' ⟨rfl, hw'⟩; rw [hw']; clear hw' w'))
  go_ret2
  exact ⟨rfl, (Below.refl _ _).alloc (Nat.le_refl _) _⟩
/-- what EncodeReply answers -/
def encO (k : Int) (x : Part) (l : List Part) : Value := if wi k 0 12 = true then frO (lReply k x l (.ok [], false)) else .tuple #[sv [], .int .i64 170]
theorem encodeReply_any {w : World} (k : Int) {x : Part} {l : List Part} {uh ue up : Value} (T : Lay w) (h : Rq0 w x l uh ue up) :
    Calls Tryz.prog 6 #[.int .i64 k, rpV x uh ue up] w fun e w' => e = .returned (encO k x l) ∧ Below w.heap.size w w' := by
  cases hk : wi k 0 12 with
  | true =>
    rw [encO, if_pos hk]
    rw [wi_iff] at hk
    obtain ⟨K, rfl⟩ : ∃ K : Nat, k = (K : Int) := ⟨k.toNat, by omega⟩
    exact encodeReply_in T (by omega) h
  | false =>
    rw [encO, if_neg (by rw [hk]; exact Bool.false_ne_true)]
    obtain ⟨p1, q1, e1, _⟩ := h.ak.s1
    obtain ⟨p2, q2, e2, _⟩ := h.ak.s2
    obtain ⟨p3, q3, e3⟩ := h.ak.s3
    exact encodeReply_kind hk ⟨_, _, _, e1⟩ ⟨_, _, _, e2⟩ ⟨_, _, _, e3⟩
end Msg
end Go.Proofs.YteilkpihddfpeaaGreatDoor
