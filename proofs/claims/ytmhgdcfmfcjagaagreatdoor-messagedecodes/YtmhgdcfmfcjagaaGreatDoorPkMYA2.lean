import Derived.Test.YtmhgdcfmfcjagaaGreatDoorPkMZ2
import Derived.Test.YtmhgdcfmfcjagaaGreatDoorPkU3
namespace Go.Proofs.YtmhgdcfmfcjagaaGreatDoor
open Go.RowKit Cod
namespace Msg

theorem As.aq {w : World} {lo hi : Nat} {u : Value} {l : List Ask} (h : As w lo hi u l) : Aq w hi u l := by
  rcases h with ⟨rfl, rfl⟩ | ⟨g, cap, rfl, h1, h2, h3, h4⟩
  · exact ⟨none, 0, rfl, fun j x hx => by simp at hx⟩
  · refine ⟨_, cap, rfl, fun j x hx => ?_⟩
    obtain ⟨ul, ue, ua, c0, c1, c2, c3, c4, c5, c6, n1, n2, s1, s2, s3⟩ := h4 j x hx
    refine ⟨_, rfl, h2, ul, ue, ua, ?_⟩
    simp only [add_at, Nat.zero_add]
    exact ⟨c0, c1, c2, c3, c4, c5, c6, n1.lw, n2.lw, s1, s2, s3⟩
set_option maxRecDepth 100000 in
set_option maxHeartbeats 2000000 in
theorem sameRequest_yes {w : World} {hi : Nat} {x : Ask} {l : List Ask} {uh ue uh' ue' : Value} {p3 p4 : Option Addr} {q3 q4 : Nat} (hn : x.n = l.length) (a3 : Aq w hi (.slice p3 x.n q3) l) (b3 : Aq w hi (.slice p4 x.n q4) l) (hhi : hi ≤ w.heap.size) (hl : ∀ y ∈ l, y.n = 0 ∧ y.list.length ≤ maxLen ∧ y.ent.length ≤ maxLen) (hl3 : l.length ≤ maxLen) (a1 : SlcI w uh x.list) (a2 : Slc w ue x.ent) (b1 : SlcI w uh' x.list) (b2 : Slc w ue' x.ent) (hl1 : x.list.length ≤ maxLen) (hl2 : x.ent.length ≤ maxLen) :
    Calls Tryz.prog 11 #[.agg (aqO x uh ue (.slice p3 x.n q3)), .agg (aqO x uh' ue' (.slice p4 x.n q4))] w fun e w' => e = .returned (.bool true) ∧ Below w.heap.size w w' := by
  rw [hn] at a3 b3 ⊢
  unfold maxLen at hl3
  have bA := ((Below.refl w.heap.size w).alloc (Nat.le_refl _) (.cells (aqO x uh ue (.slice p3 l.length q3)) 26)).alloc (by rw [size_alloc]; omega) (.cells (aqO x uh' ue' (.slice p4 l.length q4)) 26)
  have i1 := sameInts_yes x.list uh uh' _ (SlcI.bl17 a1 bA) (SlcI.bl17 b1 bA) hl1
  have A2 := hid (a2.below bA (Nat.le_refl _))
  have B2 := hid (b2.below bA (Nat.le_refl _))
  have r1 : ((w.alloc (.cells (aqO x uh ue (.slice p3 l.length q3)) 26)).alloc (.cells (aqO x uh' ue' (.slice p4 l.length q4)) 26)).heap[w.heap.size]? = some (.cells (aqO x uh ue (.slice p3 l.length q3)) 26 (0, 0)) := (((Below.refl _ _).alloc (Nat.le_refl _) _).block _ (by rw [size_alloc]; omega)).trans (heap_alloc_new _ _)
  have r2 : ((w.alloc (.cells (aqO x uh ue (.slice p3 l.length q3)) 26)).alloc (.cells (aqO x uh' ue' (.slice p4 l.length q4)) 26)).heap[w.heap.size + 1]? = some (.cells (aqO x uh' ue' (.slice p4 l.length q4)) 26 (0, 0)) := heap_alloc_at _ _ _ (size_alloc _ _)
  have zz : ((w.alloc (.cells (aqO x uh ue (.slice p3 l.length q3)) 26)).alloc (.cells (aqO x uh' ue' (.slice p4 l.length q4)) 26)).heap.size = w.heap.size + 1 + 1 := by rw [size_alloc, size_alloc]
  have BA := hid bA
  have A3 := hid a3
  have B3 := hid b3
  have HL := hid hl
  obtain ⟨p5, q5, rfl, _⟩ := a1
  obtain ⟨p6, q6, rfl, _⟩ := a2
  obtain ⟨p7, q7, rfl, _⟩ := b1
  obtain ⟨p8, q8, rfl, _⟩ := b2
  clear bA a3 b3 hl
  go_enter Tryz.func11, Tryz.ntmps11
  go_wp2_with (go_at_call 38; fail)
  go_at_call 38
  refine i1.mono ?_
  rintro e w1 ⟨rfl, h1⟩
  have R1 := (h1.block _ (by omega)).trans r1
  have R2 := (h1.block _ (by omega)).trans r2
  have BB1 := hid (BA.out.trans (h1.mono (by omega)))
  have i2 := sameTexts_yes x.ent _ _ w1 (A2.out.below h1 (Nat.le_refl _)) (B2.out.below h1 (Nat.le_refl _)) hl2
  have c6 : w1.cell? ⟨w.heap.size, 5, none⟩ = some (.slice p6 x.ent.length q6) := by rw [cell_of_row _ _ _ _ _ _ R1]; rfl
  have d6 : w1.cell? ⟨w.heap.size + 1, 5, none⟩ = some (.slice p8 x.ent.length q8) := by rw [cell_of_row _ _ _ _ _ _ R2]; rfl
  have hs1 := h1.size
  clear h1 i1 r1 r2
  go_wp2_with (go_at_call 39; fail)
  go_at_call 39
  refine i2.mono ?_
  rintro e w2 ⟨rfl, h2⟩
  have S1 := (h2.block _ (by omega)).trans R1
  have S2 := (h2.block _ (by omega)).trans R2
  have BB2 := hid (BB1.out.trans (h2.mono (by omega)))
  have e0 : w2.cell? ⟨w.heap.size, 0, none⟩ = some (.int .i64 x.kind) := by rw [cell_of_row _ _ _ _ _ _ S1]; rfl
  have e1 : w2.cell? ⟨w.heap.size, 1, none⟩ = some (.int .i64 x.a) := by rw [cell_of_row _ _ _ _ _ _ S1]; rfl
  have e2 : w2.cell? ⟨w.heap.size, 2, none⟩ = some (.int .i64 x.b) := by rw [cell_of_row _ _ _ _ _ _ S1]; rfl
  have e3 : w2.cell? ⟨w.heap.size, 3, none⟩ = some (.int .i64 x.size) := by rw [cell_of_row _ _ _ _ _ _ S1]; rfl
  have e7 : w2.cell? ⟨w.heap.size, 6, none⟩ = some (.slice p3 l.length q3) := by rw [cell_of_row _ _ _ _ _ _ S1]; rfl
  have f0 : w2.cell? ⟨w.heap.size + 1, 0, none⟩ = some (.int .i64 x.kind) := by rw [cell_of_row _ _ _ _ _ _ S2]; rfl
  have f1 : w2.cell? ⟨w.heap.size + 1, 1, none⟩ = some (.int .i64 x.a) := by rw [cell_of_row _ _ _ _ _ _ S2]; rfl
  have f2 : w2.cell? ⟨w.heap.size + 1, 2, none⟩ = some (.int .i64 x.b) := by rw [cell_of_row _ _ _ _ _ _ S2]; rfl
  have f3 : w2.cell? ⟨w.heap.size + 1, 3, none⟩ = some (.int .i64 x.size) := by rw [cell_of_row _ _ _ _ _ _ S2]; rfl
  have f7 : w2.cell? ⟨w.heap.size + 1, 6, none⟩ = some (.slice p4 l.length q4) := by rw [cell_of_row _ _ _ _ _ _ S2]; rfl
  have n0 : (x.kind != x.kind) = false := by simp
  have n1 : (x.size != x.size) = false := by simp
  have n2 : (x.a != x.a) = false := by simp
  have n3 : (x.b != x.b) = false := by simp
  have SS1 := hid S1
  have SS2 := hid S2
  have n4 : (((l.length : Nat) : Int) != ((l.length : Nat) : Int)) = false := by simp
  have hz2 : w.heap.size + 1 < w2.heap.size := by have := h2.size; omega
  clear h2 i2 R1 R2 S1 S2 c6 d6
  go_wp2
  clear e0 e1 e2 e3 e7 f0 f1 f2 f3 f7
  go_loopw [7] (fun i w' => ∃ k : Nat, k ≤ l.length ∧ i = .int .i64 k ∧ Hid (Below w2.heap.size w2 w')) (fun i _ => l.length - (intOf i).toNat)
  case atStart => exact ⟨0, by omega, rfl, hid (Below.refl _ _)⟩
  case round =>
    obtain ⟨k, hk, rfl, hB⟩ := hrel
    have e7 : wr.cell? ⟨w.heap.size, 6, none⟩ = some (.slice p3 l.length q3) := by rw [cell_of_row _ _ _ _ _ _ ((hB.out.block _ (by omega)).trans SS1.out)]; rfl
    have f7 : wr.cell? ⟨w.heap.size + 1, 6, none⟩ = some (.slice p4 l.length q4) := by rw [cell_of_row _ _ _ _ _ _ ((hB.out.block _ (by omega)).trans SS2.out)]; rfl
    by_cases hlt : k < l.length
    · have b0 : (k : Int) < (l.length : Int) := by omega
      have bW : Below hi w wr := (BB2.out.mono hhi).trans (hB.out.mono (by omega))
      obtain ⟨pa, ca, he, a4⟩ := A3.out.bl bW
      injection he with he1 he2 he3
      obtain ⟨y, ey, hy, vh, ve, vp, c0, c1, c2, c3, c4, c5, c6, m1, m2, r1, r2, r3⟩ := a4 k l[k] (List.getElem?_eq_getElem hlt)
      rw [← he1] at ey
      clear he1 he2 he3 a4
      obtain ⟨pa', ca', he, a4⟩ := B3.out.bl bW
      injection he with he1 he2 he3
      obtain ⟨z, ez, hz, xh, xe, xp, d0, d1, d2, d3, d4, d5, d6, m3, m4, r4, r5, r6⟩ := a4 k l[k] (List.getElem?_eq_getElem hlt)
      rw [← he1] at ez
      clear he1 he2 he3 a4
      subst ey ez
      rw [← Go.Deep.add_add] at c1 c2 c3 c4 c5 c6 d1 d2 d3 d4 d5 d6
      obtain ⟨g1, g2, g3⟩ := HL.out l[k] (List.getElem_mem hlt)
      obtain ⟨p1, q1, rfl⟩ := r3
      obtain ⟨p2, q2, rfl⟩ := r6
      have i3 := sameRequest_flat (w := wr.drew) (p3 := p1) (q3 := q1) (p4 := p2) (q4 := q2) g1 (SlcI.drew r1) (Slc.drew r2) (SlcI.drew r4) (Slc.drew r5) g2 g3
      clear g1 g2 g3
      obtain ⟨pp1, qq1, rfl, _⟩ := r1
      obtain ⟨pp2, qq2, rfl, _⟩ := r2
      obtain ⟨pp3, qq3, rfl, _⟩ := r4
      obtain ⟨pp4, qq4, rfl, _⟩ := r5
      generalize l[k] = t at *
      have S0 : wr.cell? ⟨w.heap.size, 6, none⟩ = some (.slice (some y) l.length q3) ∧ wr.cell? ⟨w.heap.size + 1, 6, none⟩ = some (.slice (some z) l.length q4) ∧ wr.cell? (y.add (k * 7)) = some (.int .i64 t.kind) ∧ wr.cell? ⟨(y.add (k * 7)).block, (y.add (k * 7)).off + 1, none⟩ = some (.int .i64 t.a) ∧ wr.cell? ⟨(y.add (k * 7)).block, (y.add (k * 7)).off + 2, none⟩ = some (.int .i64 t.b) ∧ wr.cell? ⟨(y.add (k * 7)).block, (y.add (k * 7)).off + 3, none⟩ = some (.int .i64 t.size) ∧ wr.cell? ⟨(y.add (k * 7)).block, (y.add (k * 7)).off + 4, none⟩ = some (.slice pp1 t.list.length qq1) ∧ wr.cell? ⟨(y.add (k * 7)).block, (y.add (k * 7)).off + 5, none⟩ = some (.slice pp2 t.ent.length qq2) ∧ wr.cell? ⟨(y.add (k * 7)).block, (y.add (k * 7)).off + 6, none⟩ = some (.slice p1 t.n q1) ∧ wr.cell? (z.add (k * 7)) = some (.int .i64 t.kind) ∧ wr.cell? ⟨(z.add (k * 7)).block, (z.add (k * 7)).off + 1, none⟩ = some (.int .i64 t.a) ∧ wr.cell? ⟨(z.add (k * 7)).block, (z.add (k * 7)).off + 2, none⟩ = some (.int .i64 t.b) ∧ wr.cell? ⟨(z.add (k * 7)).block, (z.add (k * 7)).off + 3, none⟩ = some (.int .i64 t.size) ∧ wr.cell? ⟨(z.add (k * 7)).block, (z.add (k * 7)).off + 4, none⟩ = some (.slice pp3 t.list.length qq3) ∧ wr.cell? ⟨(z.add (k * 7)).block, (z.add (k * 7)).off + 5, none⟩ = some (.slice pp4 t.ent.length qq4) ∧ wr.cell? ⟨(z.add (k * 7)).block, (z.add (k * 7)).off + 6, none⟩ = some (.slice p2 t.n q2) := ⟨e7, f7, c0, c1, c2, c3, c4, c5, c6, d0, d1, d2, d3, d4, d5, d6⟩
      have hyb : (y.add (k * 7)).block < wr.heap.size := by rw [add_block]; have := hB.out.size; omega
      have hzb : (z.add (k * 7)).block < wr.heap.size := by rw [add_block]; have := hB.out.size; omega
      have hA1 : w.heap.size < wr.heap.size := by have := hB.out.size; omega
      have hA2 : w.heap.size + 1 < wr.heap.size := by have := hB.out.size; omega
      have SA : Hid (∀ w', Below wr.heap.size wr w' → w'.cell? ⟨w.heap.size, 6, none⟩ = some (.slice (some y) l.length q3) ∧ w'.cell? ⟨w.heap.size + 1, 6, none⟩ = some (.slice (some z) l.length q4) ∧ w'.cell? (y.add (k * 7)) = some (.int .i64 t.kind) ∧ w'.cell? ⟨(y.add (k * 7)).block, (y.add (k * 7)).off + 1, none⟩ = some (.int .i64 t.a) ∧ w'.cell? ⟨(y.add (k * 7)).block, (y.add (k * 7)).off + 2, none⟩ = some (.int .i64 t.b) ∧ w'.cell? ⟨(y.add (k * 7)).block, (y.add (k * 7)).off + 3, none⟩ = some (.int .i64 t.size) ∧ w'.cell? ⟨(y.add (k * 7)).block, (y.add (k * 7)).off + 4, none⟩ = some (.slice pp1 t.list.length qq1) ∧ w'.cell? ⟨(y.add (k * 7)).block, (y.add (k * 7)).off + 5, none⟩ = some (.slice pp2 t.ent.length qq2) ∧ w'.cell? ⟨(y.add (k * 7)).block, (y.add (k * 7)).off + 6, none⟩ = some (.slice p1 t.n q1) ∧ w'.cell? (z.add (k * 7)) = some (.int .i64 t.kind) ∧ w'.cell? ⟨(z.add (k * 7)).block, (z.add (k * 7)).off + 1, none⟩ = some (.int .i64 t.a) ∧ w'.cell? ⟨(z.add (k * 7)).block, (z.add (k * 7)).off + 2, none⟩ = some (.int .i64 t.b) ∧ w'.cell? ⟨(z.add (k * 7)).block, (z.add (k * 7)).off + 3, none⟩ = some (.int .i64 t.size) ∧ w'.cell? ⟨(z.add (k * 7)).block, (z.add (k * 7)).off + 4, none⟩ = some (.slice pp3 t.list.length qq3) ∧ w'.cell? ⟨(z.add (k * 7)).block, (z.add (k * 7)).off + 5, none⟩ = some (.slice pp4 t.ent.length qq4) ∧ w'.cell? ⟨(z.add (k * 7)).block, (z.add (k * 7)).off + 6, none⟩ = some (.slice p2 t.n q2)) := fun w' hb => by
        obtain ⟨a0, a1, a2, a3, a4, a5, a6, a7, a8, a9, a10, a11, a12, a13, a14, a15⟩ := S0
        have key : ∀ (p : Addr) v, p.block < wr.heap.size → wr.cell? p = some v → w'.cell? p = some v := fun p v h1 h2 => (hb.cell h1).trans h2
        exact ⟨key _ _ hA1 a0, key _ _ hA2 a1, key _ _ hyb a2, key _ _ hyb a3, key _ _ hyb a4, key _ _ hyb a5, key _ _ hyb a6, key _ _ hyb a7, key _ _ hyb a8, key _ _ hzb a9, key _ _ hzb a10, key _ _ hzb a11, key _ _ hzb a12, key _ _ hzb a13, key _ _ hzb a14, key _ _ hzb a15⟩
      clear e7 f7 c0 c1 c2 c3 c4 c5 c6 d0 d1 d2 d3 d4 d5 d6 m1 m2 m3 m4
      go_wp2
      go_region_held3 (fun w' => w'.cell? ⟨w.heap.size, 6, none⟩ = some (.slice (some y) l.length q3) ∧ w'.cell? ⟨w.heap.size + 1, 6, none⟩ = some (.slice (some z) l.length q4) ∧ w'.cell? (y.add (k * 7)) = some (.int .i64 t.kind) ∧ w'.cell? ⟨(y.add (k * 7)).block, (y.add (k * 7)).off + 1, none⟩ = some (.int .i64 t.a) ∧ w'.cell? ⟨(y.add (k * 7)).block, (y.add (k * 7)).off + 2, none⟩ = some (.int .i64 t.b) ∧ w'.cell? ⟨(y.add (k * 7)).block, (y.add (k * 7)).off + 3, none⟩ = some (.int .i64 t.size) ∧ w'.cell? ⟨(y.add (k * 7)).block, (y.add (k * 7)).off + 4, none⟩ = some (.slice pp1 t.list.length qq1) ∧ w'.cell? ⟨(y.add (k * 7)).block, (y.add (k * 7)).off + 5, none⟩ = some (.slice pp2 t.ent.length qq2) ∧ w'.cell? ⟨(y.add (k * 7)).block, (y.add (k * 7)).off + 6, none⟩ = some (.slice p1 t.n q1) ∧ w'.cell? (z.add (k * 7)) = some (.int .i64 t.kind) ∧ w'.cell? ⟨(z.add (k * 7)).block, (z.add (k * 7)).off + 1, none⟩ = some (.int .i64 t.a) ∧ w'.cell? ⟨(z.add (k * 7)).block, (z.add (k * 7)).off + 2, none⟩ = some (.int .i64 t.b) ∧ w'.cell? ⟨(z.add (k * 7)).block, (z.add (k * 7)).off + 3, none⟩ = some (.int .i64 t.size) ∧ w'.cell? ⟨(z.add (k * 7)).block, (z.add (k * 7)).off + 4, none⟩ = some (.slice pp3 t.list.length qq3) ∧ w'.cell? ⟨(z.add (k * 7)).block, (z.add (k * 7)).off + 5, none⟩ = some (.slice pp4 t.ent.length qq4) ∧ w'.cell? ⟨(z.add (k * 7)).block, (z.add (k * 7)).off + 6, none⟩ = some (.slice p2 t.n q2)) (first | exact S0 | exact S1) (first | (go_at_call 11; (with_reducible refine i3.mono ?_); rintro e w3 ⟨rfl, h3⟩; have S1 := SA.out w3 (((Below.refl _ wr).drew).trans h3); have B4 := hid (hB.out.trans ((((Below.refl _ wr).drew).trans h3).mono hB.out.size)); clear h3))
      go_wp2
      exact ⟨⟨k + 1, by omega, by go_num, B4⟩, by simp [intOf]; omega⟩
    · have b0 : ¬ (k : Int) < (l.length : Int) := by omega
      obtain rfl : k = l.length := by omega
      go_wp2
      go_ret
      exact ⟨rfl, BB2.out.trans (hB.out.mono (by omega))⟩
end Msg
end Go.Proofs.YtmhgdcfmfcjagaaGreatDoor

namespace Go.Proofs.YtmhgdcfmfcjagaaGreatDoor
open Go.RowKit Cod
namespace Msg

set_option maxRecDepth 100000 in
set_option maxHeartbeats 1000000 in
theorem unframe17_any (s : ByteArray) (w : World) (hs : s.size ≤ 4611686018427380000) :
    Calls Tryz.prog 45 #[.string s] w fun e w' => (match rdText s.data.toList 1048576 with
      | .good p r => e = .returned (.tuple #[sv p, sv r, .int .i64 0])
      | .bad k => e = .returned (.tuple #[sv [], sv [], .int .i64 (unfr k)])) ∧ Below w.heap.size w w' := by
  have i1 := runframe_any s w hs
  have hz := nz_text s.data.toList 1048576
  cases hR : rdText s.data.toList 1048576 with
  | good p r =>
    rw [hR] at i1
    simp only [tupS] at i1
    rw [show sv p = .string ⟨p.toArray⟩ from rfl, show sv r = .string ⟨r.toArray⟩ from rfl] at i1
    clear hR hz
    go_enter Tryz.func45, Tryz.ntmps45
    go_wp2_with (go_at_call 82; refine i1.mono ?_; rintro e w1 ⟨rfl, h1⟩; have H1 := hid h1; clear h1)
    go_ret3
    exact ⟨rfl, H1.out⟩
  | bad k =>
    have hk := hz k hR
    rw [hR] at i1
    simp only [tupS] at i1
    clear hR hz
    have b0 : ((k : Int) == 0) = false := by simp; omega
    by_cases h21 : k = 21
    · subst h21
      go_enter Tryz.func45, Tryz.ntmps45
      go_wp2_with (go_at_call 82; refine i1.mono ?_; rintro e w1 ⟨rfl, h1⟩; have H1 := hid h1; clear h1)
      go_ret3
      exact ⟨rfl, H1.out⟩
    by_cases h22 : k = 22
    · subst h22
      go_enter Tryz.func45, Tryz.ntmps45
      go_wp2_with (go_at_call 82; refine i1.mono ?_; rintro e w1 ⟨rfl, h1⟩; have H1 := hid h1; clear h1)
      go_ret3
      exact ⟨rfl, H1.out⟩
    have b1 : ((k : Int) == 21) = false := by simp; omega
    have b2 : ((k : Int) == 22) = false := by simp; omega
    have hu : unfr k = 173 := by rw [unfr, if_neg h21, if_neg h22]
    show Calls _ _ _ _ fun e w' => e = .returned (.tuple #[sv [], sv [], .int .i64 (unfr k)]) ∧ _
    rw [hu]
    clear h21 h22 hu hk
    go_enter Tryz.func45, Tryz.ntmps45
    go_wp2_with (go_at_call 82; refine i1.mono ?_; rintro e w1 ⟨rfl, h1⟩; have H1 := hid h1; clear h1)
    go_ret3
    exact ⟨rfl, H1.out⟩
/-- take of a whole -/
def AllPo (w : World) (b : Nat) (s : ByteArray) (q : (Ask × List Ask) × RS) (e : Ending) (w' : World) : Prop :=
  ∃ vl ve va, e = .returned (akV q.1.1 vl ve va) ∧ Got w' w.heap.size q.1.1 q.1.2 vl ve va ∧ XRd w' b s q.2 ∧ Keep (fun k => k = b) w w'
theorem take17_all {w : World} {b : Nat} {s : ByteArray} {st : RS} (h : XRd w b s st) : Calls Tryz.prog 47 #[.pointer (some ⟨b, 0, none⟩), .bool false] w (AllPo w b s (dAll st)) := by
  by_cases hk : st.val 0 (rdByte st.rest) = 12
  · rw [dAll, if_pos hk]
    refine (take17_group h hk).mono ?_
    rintro e w' ⟨va, rfl, g1, g2, g3, g4⟩
    exact ⟨_, _, va, rfl, ⟨⟨none, 0, rfl, fun j c hc => by cases hc⟩, Nw.nil _ _, ⟨none, 0, rfl, fun j c hc => by cases hc⟩, Nw.nil _ _, g1, rfl⟩, g3, g4⟩
  · rw [dAll, if_neg hk]
    refine (take17_flat false h _ rfl hk).mono ?_
    rintro e w' ⟨vl, ve, rfl, g1, g2, g3, g4, g5, g6, g7⟩
    exact ⟨vl, ve, _, rfl, ⟨g1, g2, g3, g4, .inl ⟨rfl, rfl⟩, g5⟩, g6, g7⟩
/-- what lies there may be handed to Encode -/
theorem Got.ra1 {w : World} {lo : Nat} {x : Ask} {l : List Ask} {ul ue ua : Value} (h : Got w lo x l ul ue ua) (hf : Fit x) (hl : ∀ y ∈ l, Fit y ∧ y.n = 0) : Ra1 w x l ul ue ua := by
  obtain ⟨g1, g2, g3, g4, g5, g6⟩ := h
  obtain ⟨p, q, e⟩ := g5.shape
  exact ⟨⟨fun x n c e _ => (g2 x n c e).2, fun x n c e _ => (g4 x n c e).2, g1, g3, ⟨p, q, by rw [g6]; exact e⟩⟩, hf, g5.aq, g6, hl⟩
end Msg
end Go.Proofs.YtmhgdcfmfcjagaaGreatDoor

namespace Go.Proofs.YtmhgdcfmfcjagaaGreatDoor
open Go.RowKit Cod
namespace Msg

theorem encD_cases (x : Ask) (l : List Ask) : (∃ c : Int, c ≠ 0 ∧ encD x l = .tuple #[sv [], .int .i64 c]) ∨ ∃ p, encD x l = .tuple #[sv (wrText p), .int .i64 0] ∧ lRequest x l (.ok [], false) = (.ok p, false) ∧ p.length ≤ 1048576 := by
  rw [encD]
  split
  · have hz := nz_request x l _ nz_nil
    rw [frO]
    split
    · rename_i hg
      obtain ⟨p, hp⟩ := ws_some hz hg
      rw [hp]
      by_cases h : 1048576 < p.length
      · exact .inl ⟨174, by omega, if_pos h⟩
      · exact .inr ⟨p, if_neg h, rfl, by omega⟩
    · exact .inl ⟨171, by omega, rfl⟩
  · exact .inl ⟨170, by omega, rfl⟩
theorem done_err0 {st : RS} (h : st.done = 0) : st.err = 0 := by
  by_cases he : st.err = 0
  · exact he
  · rw [RS.done, if_neg he] at h; exact h
/-- where the program's Decode is content the document's is -/
theorem dec17_yes {s p r : List UInt8} (hR : rdText s 1048576 = .good p r) (h : (decide ((tRequest (⟨p, 0, 0⟩, false)).2.1.done = 0) && !(tRequest (⟨p, 0, 0⟩, false)).2.2) = true) :
    dAll ⟨p, 0, 0⟩ = ((tRequest (⟨p, 0, 0⟩, false)).1, (tRequest (⟨p, 0, 0⟩, false)).2.1) ∧ (dAll ⟨p, 0, 0⟩).2.done = 0 ∧ encD (dAll ⟨p, 0, 0⟩).1.1 (dAll ⟨p, 0, 0⟩).1.2 = .tuple #[sv (wrText p), .int .i64 0] ∧ wrText p ++ r = s := by
  rw [Bool.and_eq_true, decide_eq_true_eq, Bool.not_eq_true'] at h
  obtain ⟨h1, h2⟩ := h
  have hd : dAll ⟨p, 0, 0⟩ = _ := dAll_t (⟨p, 0, 0⟩, false) (done_err0 h1) h2
  obtain ⟨e1, _, e3, _⟩ := text_back hR
  obtain ⟨g1, g2⟩ := req_strict p h1 h2
  refine ⟨hd, by rw [hd]; exact h1, ?_, e1.symm⟩
  rw [hd]
  show encD (tRequest (⟨p, 0, 0⟩, false)).1.1 (tRequest (⟨p, 0, 0⟩, false)).1.2 = _
  rw [encD, if_pos g2, g1, frO, if_pos ⟨rfl, rfl⟩]
  exact if_neg (by show ¬ 1048576 < p.length; omega)
theorem wrText_inj {p q : List UInt8} (hp : p.length ≤ 1048576) (hq : q.length ≤ 1048576) (h : wrText p = wrText q) : p = q := by
  have a := text_there (t := p) (most := 1048576) (by rw [top]; omega) (by omega) []
  have b := text_there (t := q) (most := 1048576) (by rw [top]; omega) (by omega) []
  rw [h, b] at a
  exact (Rd.good.inj a).1.symm
/-- and nowhere else -/
theorem dec17_no {s p r : List UInt8} (hR : rdText s 1048576 = .good p r) (h : (decide ((tRequest (⟨p, 0, 0⟩, false)).2.1.done = 0) && !(tRequest (⟨p, 0, 0⟩, false)).2.2) = false) :
    (dAll ⟨p, 0, 0⟩).2.done ≠ 0 ∨ (∃ c : Int, c ≠ 0 ∧ encD (dAll ⟨p, 0, 0⟩).1.1 (dAll ⟨p, 0, 0⟩).1.2 = .tuple #[sv [], .int .i64 c]) ∨ ∃ t, encD (dAll ⟨p, 0, 0⟩).1.1 (dAll ⟨p, 0, 0⟩).1.2 = .tuple #[sv (wrText t), .int .i64 0] ∧ t.length ≤ 1048576 ∧ wrText t ++ r ≠ s := by
  obtain ⟨e1, _, e3, _⟩ := text_back hR
  have hp : p.length ≤ 1048576 := by omega
  obtain ⟨_, f2, _⟩ := fit_dAll ⟨p, 0, 0⟩ (by show p.length ≤ _; omega)
  rcases encD_cases (dAll ⟨p, 0, 0⟩).1.1 (dAll ⟨p, 0, 0⟩).1.2 with g | ⟨t, g1, g2, g3⟩
  · exact .inr (.inl g)
  · refine .inr (.inr ⟨t, g1, g3, fun e => ?_⟩)
    rw [e1] at e
    have := wrText_inj g3 hp (List.append_cancel_right e)
    subst this
    rw [req_there _ _ f2 t g2] at h
    exact Bool.noConfusion h
end Msg
end Go.Proofs.YtmhgdcfmfcjagaaGreatDoor
