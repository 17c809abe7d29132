import Derived.Test.YtmhgdcfmfcjagaaGreatDoorPkMVQ
import Derived.Test.YtmhgdcfmfcjagaaGreatDoorPkMV3
import Derived.Test.YtmhgdcfmfcjagaaGreatDoorPkMU1
import Derived.Test.YtmhgdcfmfcjagaaGreatDoorPkYW2
import Derived.Test.YtmhgdcfmfcjagaaGreatDoorPkMF2b
import Derived.Test.YtmhgdcfmfcjagaaGreatDoorPkXR3
namespace Go.Proofs.YtmhgdcfmfcjagaaGreatDoor
open Go.RowKit Cod
namespace Msg
structure Gp (x : Part) : Prop where
  fit : PFit x
  wi : wi x.status 0 8 = true
  self : x.status = 0 → setRs x (fmF x) (Part.of 0) = x
  oth : ¬ x.status = 0 → Part.of x.status = x
theorem lPart_not {x : Part} (h : Gp x) (h0 : ¬ x.status = 0) (s : LS) : lPart x s = lMark x.status 0 8 s := by
  rw [lPart, lTail, if_neg (by rw [isDn, decide_eq_false h0, Bool.and_false]; exact Bool.false_ne_true), stB, if_pos h.wi, h.oth h0, wholeP_self, Bool.not_true, Bool.or_false]
theorem lPart_done {x : Part} (h : Gp x) (h0 : x.status = 0) (s : LS) : lPart x s = lFrs x id (fmF x) (lMark (fm x) 0 1 (lMark 0 0 8 s)) := by
  have hi : isDn x.status 0 = true := by rw [isDn, h.wi, Bool.true_and]; exact decide_eq_true h0
  rw [lPart, lTail, if_pos hi, h.self h0, wholeP_self, Bool.not_true, Bool.or_false, h0]
theorem partL_yes {w : World} {base b c d : Nat} {v : Value} {s : LS} {x : Part} {uh ue up : Value} (h : Pa w base b c d v s x uh ue up Part.zero (.slice none 0 0) (.slice none 0 0) (.slice none 0 0)) (hg : Gp x) (hm : Sm s 140500000000000) :
    Calls Tryz.prog 162 #[.pointer (some ⟨d, 0, none⟩)] w fun e w' => e = .returned (.tuple #[]) ∧ GPost w base b c d v (lPart x s) x uh ue up x w' := by
  by_cases h0 : x.status = 0
  · have hs := hg.self h0
    rw [lPart_done hg h0]
    by_cases hr : x.root = []
    · have h1 : fm x = 0 := if_pos hr
      have h2 : fmF x = [.hashes] := if_pos hr
      have := partL_hashes h hg.fit hm h0 h1
      rw [h2] at hs
      rw [show setR x .hashes (Part.of 0) = x from hs] at this
      rw [h1, h2]
      exact this
    · have h1 : fm x = 1 := if_neg hr
      have h2 : fmF x = [.root] := if_neg hr
      have := partL_root h hg.fit hm h0 h1
      rw [h2] at hs
      rw [show setR x .root (Part.of 0) = x from hs] at this
      rw [h1, h2]
      exact this
  · have := partL_not h (hm.mono (by omega)) hg.wi h0
    rw [hg.oth h0] at this
    rw [lPart_not hg h0]
    exact this
theorem sm_part {x : Part} (h : Gp x) {s : LS} {m : Nat} (hs : Sm s m) : Sm (lPart x s) (m + 343597383680) := by
  by_cases h0 : x.status = 0
  · rw [lPart_done h h0]
    have h1 : Sm (lMark 0 0 8 s) (m + 1) := hs.lif _ _ _
    have h2 : Sm (lMark (fm x) 0 1 (lMark 0 0 8 s)) (m + 1 + 1) := h1.lif _ _ _
    have hl : (fmF x).length = 1 := by unfold fmF; split <;> rfl
    have := sm_fr h.fit (K := 68719476736) (da := id) (fs := fmF x) (Nat.le_refl _) (fun e => by unfold fmF at e; split at e <;> simp at e) (fmF x).length _ _ h2 (Nat.le_refl _)
    rw [List.take_length] at this
    exact this.mono (by rw [hl]; omega)
  · rw [lPart_not h h0]
    exact (hs.lif _ _ _).mono (by simp)
theorem sm_parts : ∀ (l : List Part) {s : LS} {m : Nat}, (∀ x ∈ l, Gp x) → Sm s m → Sm (l.foldl (fun s x => lPart x s) s) (m + l.length * 343597383680)
  | [], s, m, _, hs => by simpa using hs
  | x :: l, s, m, h, hs => by
    have := sm_parts l (s := lPart x s) (m := m + 343597383680) (fun y hy => h y (by simp [hy])) (sm_part (h x (by simp)) hs)
    rw [List.foldl_cons, List.length_cons]
    exact this.mono (by rw [Nat.add_mul]; omega)
theorem parts_snoc (l : List Part) (k : Nat) (hk : k < l.length) (s : LS) : (l.take (k + 1)).foldl (fun s x => lPart x s) s = lPart l[k] ((l.take k).foldl (fun s x => lPart x s) s) := by
  rw [List.take_add_one, List.getElem?_eq_getElem hk, List.foldl_append]; rfl
structure Ap (w : World) (base : Nat) (x : Part) (uh ue up : Value) : Prop where
  l1 : Lw base uh
  l2 : Lw base ue
  s1 : Slc w uh x.hs
  s2 : Slc w ue x.ent
  s3 : ∃ p q, up = .slice p x.n q
theorem pa_new {w W : World} {base b c d : Nat} {v : Value} {s : LS} {x : Part} {uh ue up : Value} (h : Ly w base b c v s) (hx : Ap w base x uh ue up) (bW : Below w.heap.size w W) (hr : W.heap[d]? = some (.cells (rpArr (lay c) x uh ue up Part.zero (.slice none 0 0) (.slice none 0 0) (.slice none 0 0)) 114 (0, 0))) (hd : w.heap.size ≤ d) :
    Pa W base b c d v s x uh ue up Part.zero (.slice none 0 0) (.slice none 0 0) (.slice none 0 0) :=
  ⟨h.below bW, hr, fun e => by have := (h.ge' _ e).2; omega, Nat.le_trans h.base hd, hx.l1, hx.l2, hx.l1.slc hx.s1 (bW.mono h.base), hx.l2.slc hx.s2 (bW.mono h.base), hx.s3, ⟨_, _, rfl⟩, ⟨_, _, rfl⟩, ⟨_, _, rfl⟩⟩
theorem lo_end {w W w2 w4 : World} {base b c d : Nat} {v v' : Value} {s2 : LS} (bW : Below w.heap.size w W) (hd : w.heap.size ≤ d) (k : Keep (QSet b c d v) W w2) (f : From W v v') (h4 : Ly w4 base b c v' s2) (k4 : But c w2.drew w4) : Lo w base b c v s2 w4 := by
  refine ⟨v', h4, ?_, fun j hj => ?_⟩
  · have k1 : Keep (LSet b c v) w w2 := (Keep.ofBelow bW : Keep (LSet b c v) w _).trans k fun j hj e => by
      rcases e with e | e
      · omega
      · exact e
    exact (k1.drew).trans (T := fun k => k = c) (Keep.ofBut k4 rfl) fun j _ e => .inl e
  · rcases f j hj with g | g
    · exact .inl g
    · exact .inr (Nat.le_trans bW.size g)
set_option maxRecDepth 100000 in
set_option maxHeartbeats 4000000 in
theorem layParts_yes {w : World} {base lo0 b c : Nat} {v : Value} {s : LS} {u : Value} {l : List Part} (h : Ly w base b c v s) (hu : Ps w lo0 base u l) (hl : wi (l.length : Int) 1 64 = true) (hg : ∀ x ∈ l, Gp x) (hm : Sm s 29000000000000) :
    Calls Tryz.prog 153 #[.pointer (some ⟨c, 0, none⟩), u] w fun e w' => e = .returned u ∧ Lo w base b c v (lParts l s) w' := by
  have i1 := within_any (l.length : Int) 1 64 w
  have i2 := takes_any true w h
  rw [hl] at i1
  have hlen := wi_iff.1 hl
  rw [lParts, if_pos hl, lNum, lif_yes rfl]
  have HA := hid hu
  rcases hu with ⟨_, rfl⟩ | ⟨g, cap, rfl, g1, g2, g3, g4⟩
  · simp at hlen
  have h9 : (digs (l.length : Int).toNat).length ≤ 9 := digs_len9 (by omega)
  have HM := hid hm
  have HG := hid hg
  have HY := hid h
  have H9 := hid h9
  have hb1 : -9223372036854775808 ≤ (l.length : Int) := by omega
  have hb2 : (l.length : Int) ≤ 9223372036854775807 := by omega
  obtain ⟨s1, hs1⟩ : ∃ s1, Hid ((s.1.put (numErr (l.length : Int)) (digs (l.length : Int).toNat), s.2) = s1) := ⟨_, rfl⟩
  rw [hs1.out]
  clear h hm hg hl g4 h9
  go_enter Tryz.func153, Tryz.ntmps153
  go_wp2_with (first
    | (go_at_call 28; refine i1.mono ?_; rintro e w' ⟨rfl, hw'⟩; rw [hw']; clear hw' w')
    | (go_at_call 60; refine i2.mono ?_; rintro e w1 ⟨rfl, h1, h2⟩; have h1 := h1.yes; have d0 := h1.c0; have i3 := wNum_any base b v s.1 (l.length : Int) hb1 hb2 w1 h1.wri h1.base (fun bs e => by have := HM.out bs e; omega); have H1 := hid h1; have H2 := hid h2; clear h1 h2)
    | (go_at_call 158; refine i3.mono ?_; intro e w2 p; obtain ⟨hr, hlo⟩ := Lo.mk' H2.out H1.out p; subst hr; rw [hs1.out] at hlo; have HL := hid hlo; clear hlo p))
  have HS : Hid (Sm s1 29000000000009) := by
    have := HM.out.lif true (numErr (l.length : Int)) (digs (l.length : Int).toNat)
    rw [lif_yes rfl, hs1.out] at this
    exact this.mono (by have := H9.out; omega)
  clear i1 i2 i3 d0
  go_loopw [22] (fun i w' => ∃ k : Nat, k ≤ l.length ∧ i = .int .i64 k ∧ Hid (Lo w base b c v ((l.take k).foldl (fun s x => lPart x s) s1) w')) (fun i _ => l.length - (intOf i).toNat)
  case atStart => exact ⟨0, by omega, rfl, HL⟩
  case round =>
    obtain ⟨k, hk, rfl, hL⟩ := hrel
    by_cases hlt : k < l.length
    · have hlt' : (k : Int) < (l.length : Int) := by omega
      obtain ⟨v', y1, y2, y3⟩ := hL.out
      have bl : Below base w wr := Lo.bl HY.out y2
      rcases HA.out.bl bl with ⟨hz, _⟩ | ⟨g', cap', he, a1, a2, a3, a4⟩
      · cases hz
      injection he with he1 he2 he3
      injection he1 with he1
      injection he1 with he1
      subst he1
      clear he2
      have he3 := he3.symm
      subst he3
      obtain ⟨uh, ue, up, c0, c1, c2, c3, c4, c5, c6, c7, n1, n2, r1, r2, r3⟩ := a4 k l[k] (List.getElem?_eq_getElem hlt)
      have G := HG.out l[k] (List.getElem_mem hlt)
      have hS0 := sm_parts (l.take k) (fun x hx => HG.out x (List.mem_of_mem_take hx)) HS.out
      have hS := hS0.mono (k := 140500000000000) (by rw [List.length_take, Nat.min_eq_left hk]; omega)
      have hsn := parts_snoc l k hlt s1
      obtain ⟨p1, q1, rfl, _⟩ := id r1
      obtain ⟨p2, q2, rfl, _⟩ := id r2
      obtain ⟨p3, q3, rfl⟩ := id r3
      generalize l[k] = x at *
      have bA := ((Below.refl wr.heap.size wr).alloc (Nat.le_refl _) (.cells #[.int .i64 x.status, .int .i64 x.size, .int .i64 x.a, .int .i64 x.b, .string ⟨x.root.toArray⟩, .slice p1 x.hs.length q1, .slice p2 x.ent.length q2, .slice p3 x.n q3] 45)).alloc (by rw [size_alloc]; omega) (.cells (rpArr (lay c) x (.slice p1 x.hs.length q1) (.slice p2 x.ent.length q2) (.slice p3 x.n q3) Part.zero (.slice none 0 0) (.slice none 0 0) (.slice none 0 0)) 114)
      have hP := pa_new (d := wr.heap.size + 1) y1 ⟨n1.lw, n2.lw, r1, r2, ⟨p3, q3, rfl⟩⟩ bA (heap_alloc_at _ _ _ (size_alloc _ _)) (by omega)
      have i4 := partL_yes hP G hS
      have N : Hid (∀ w4 v2 w5, Keep (QSet b c (wr.heap.size + 1) v') ((wr.alloc (.cells #[.int .i64 x.status, .int .i64 x.size, .int .i64 x.a, .int .i64 x.b, .string ⟨x.root.toArray⟩, .slice p1 x.hs.length q1, .slice p2 x.ent.length q2, .slice p3 x.n q3] 45)).alloc (.cells (rpArr (lay c) x (.slice p1 x.hs.length q1) (.slice p2 x.ent.length q2) (.slice p3 x.n q3) Part.zero (.slice none 0 0) (.slice none 0 0) (.slice none 0 0)) 114)) w4 → From ((wr.alloc (.cells #[.int .i64 x.status, .int .i64 x.size, .int .i64 x.a, .int .i64 x.b, .string ⟨x.root.toArray⟩, .slice p1 x.hs.length q1, .slice p2 x.ent.length q2, .slice p3 x.n q3] 45)).alloc (.cells (rpArr (lay c) x (.slice p1 x.hs.length q1) (.slice p2 x.ent.length q2) (.slice p3 x.n q3) Part.zero (.slice none 0 0) (.slice none 0 0) (.slice none 0 0)) 114)) v' v2 → Ly w5 base b c v2 (lPart x ((l.take k).foldl (fun s x => lPart x s) s1)) → But c w4.drew w5 → Lo w base b c v ((l.take (k + 1)).foldl (fun s x => lPart x s) s1) w5) := fun w4 v2 w5 e1 e2 e3 e4 => by
        rw [hsn]
        exact Lo.step y2 y3 (lo_end bA (by omega) e1 e2 e3 e4)
      simp only [lay, rpArr, Part.zero, sv] at i4 N
      clear y1 y2 y3 bl a4 r1 r2 hS hS0 hsn bA G hP
      simp only [sv] at c4
      go_wp2_with (first
        | (go_at_call 162; refine i4.mono ?_; rintro e w4 ⟨rfl, v2, th, te, tp, j1, j2, j3⟩; have i5 := wholeP_yes j1; have i6 := takes_any true w4.drew j1.ly.drew; have J2 := hid j2; have J3 := hid j3; clear j1 j2 j3)
        | (go_at_call 75; refine i5.mono ?_; rintro e w5 ⟨rfl, rfl⟩)
        | (go_at_call 60; refine i6.mono ?_; rintro e w6 ⟨rfl, j4, j5⟩; have N1 := hid (N.out _ _ _ J2.out J3.out j4.yes j5); clear j4 j5))
      exact ⟨⟨k + 1, by omega, by go_num, N1⟩, by simp [intOf]; omega⟩
    · obtain rfl : k = l.length := by omega
      have hL2 := hL.out
      rw [List.take_length] at hL2
      have HL2 := hid hL2
      clear hL2
      go_wp2
      go_ret
      exact ⟨rfl, HL2.out⟩
end Msg
end Go.Proofs.YtmhgdcfmfcjagaaGreatDoor

namespace Go.Proofs.YtmhgdcfmfcjagaaGreatDoor
open Go.RowKit Cod
namespace Msg
def pS (x : Part) (s : LS) : LS := if isDn x.status 0 = true then lFrs x id (fmF x) (lMark (fm x) 0 1 (lMark x.status 0 8 s)) else lMark x.status 0 8 s
def pT (x : Part) : Part := if isDn x.status 0 = true then setRs x (fmF x) (Part.of 0) else Part.of (stB x.status 0)
theorem lPart_eq (x : Part) (s : LS) : lPart x s = ((pS x s).1, (pS x s).2 || !wholeP x (pT x)) := by
  rw [lPart, lTail, pS, pT]
  split <;> rfl
theorem sm_partA {x : Part} (hf : PFit x) {s : LS} {m : Nat} (hs : Sm s m) : Sm (lPart x s) (m + 343597383680) := by
  rw [lPart_eq]
  show Sm ((pS x s).1, _) _
  have h1 : Sm (lMark x.status 0 8 s) (m + 1) := hs.lif _ _ _
  have key : Sm (pS x s) (m + 343597383680) := by
    rw [pS]
    split
    · have h2 : Sm (lMark (fm x) 0 1 (lMark x.status 0 8 s)) (m + 1 + 1) := h1.lif _ _ _
      have hl : (fmF x).length = 1 := by unfold fmF; split <;> rfl
      have := sm_fr hf (K := 68719476736) (da := id) (fs := fmF x) (Nat.le_refl _) (fun e => by unfold fmF at e; split at e <;> simp at e) (fmF x).length _ _ h2 (Nat.le_refl _)
      rw [List.take_length] at this
      exact this.mono (by rw [hl]; omega)
    · exact h1.mono (by omega)
  exact fun bs e => key bs e
theorem sm_partsA : ∀ (l : List Part) {s : LS} {m : Nat}, (∀ x ∈ l, PFit x) → Sm s m → Sm (l.foldl (fun s x => lPart x s) s) (m + l.length * 343597383680)
  | [], s, m, _, hs => by simpa using hs
  | x :: l, s, m, h, hs => by
    have := sm_partsA l (s := lPart x s) (m := m + 343597383680) (fun y hy => h y (by simp [hy])) (sm_partA (h x (by simp)) hs)
    rw [List.foldl_cons, List.length_cons]
    exact this.mono (by rw [Nat.add_mul]; omega)
end Msg
end Go.Proofs.YtmhgdcfmfcjagaaGreatDoor

namespace Go.Proofs.YtmhgdcfmfcjagaaGreatDoor
open Go.RowKit Cod
namespace Msg
theorem tail_ok {x : Part} {least : Int} {L : LS → LS} {t : Part} {S out : List UInt8} (_h0 : 0 ≤ least) (h : lTail x least L t (.ok S, false) = (.ok out, false)) :
    wi x.status least 8 = true ∧ ((x.status = 0 ∧ L (.ok (S ++ [0]), false) = (.ok out, false) ∧ wholeP x t = true) ∨ (¬ x.status = 0 ∧ out = S ++ [UInt8.ofNat x.status.toNat] ∧ wholeP x (Part.of x.status) = true)) := by
  rw [lTail] at h
  split at h
  · rename_i hd
    rw [isDn, Bool.and_eq_true, decide_eq_true_eq] at hd
    have h2 := (Prod.mk.inj h).2
    rw [Bool.or_eq_false_iff, Bool.not_eq_false'] at h2
    have h3 : L (lMark x.status least 8 (.ok S, false)) = (.ok out, false) := Prod.ext (Prod.mk.inj h).1 h2.1
    rw [mark_eq hd.1 (by omega) (by omega), hd.2] at h3
    exact ⟨hd.1, .inl ⟨hd.2, h3, h2.2⟩⟩
  · rename_i hd
    have h2 := (Prod.mk.inj h).2
    rw [Bool.or_eq_false_iff, Bool.not_eq_false'] at h2
    have h3 : lMark x.status least 8 (.ok S, false) = (.ok out, false) := Prod.ext (Prod.mk.inj h).1 h2.1
    obtain ⟨e1, _, e3⟩ := lif_ok h3
    have hn : ¬ x.status = 0 := fun e => hd (by rw [isDn, e1, e]; rfl)
    have h4 := h2.2
    rw [stB, if_pos e1] at h4
    exact ⟨e1, .inr ⟨hn, e3, h4⟩⟩
theorem part_ok {x : Part} {S out : List UInt8} (h : lPart x (.ok S, false) = (.ok out, false)) :
    wi x.status 0 8 = true ∧ ((¬ x.status = 0 ∧ out = S ++ [UInt8.ofNat x.status.toNat]) ∨ (x.status = 0 ∧ x.root = [] ∧ lHashes x.hs (.ok (S ++ [0] ++ [0]), false) = (.ok out, false)) ∨ (x.status = 0 ∧ ¬ x.root = [] ∧ lRoot x.root (.ok (S ++ [0] ++ [1]), false) = (.ok out, false))) := by
  obtain ⟨h1, h2⟩ := tail_ok (Int.le_refl 0) h
  refine ⟨h1, ?_⟩
  rcases h2 with ⟨a, b, _⟩ | ⟨a, b, _⟩
  · by_cases hr : x.root = []
    · refine .inr (.inl ⟨a, hr, ?_⟩)
      rw [fm, fmF, if_pos hr, if_pos hr, mark_eq (by decide) (by omega) (by omega)] at b
      exact b
    · refine .inr (.inr ⟨a, hr, ?_⟩)
      rw [fm, fmF, if_neg hr, if_neg hr, mark_eq (by decide) (by omega) (by omega)] at b
      exact b
  · exact .inl ⟨a, b⟩
theorem hashes_tot {ps : List (List UInt8)} (h : hashesErr ps 32768 = 0) : ps.length ≤ 32768 ∧ total ps ≤ 134217728 := by
  rw [hashesErr] at h
  split at h
  · cases h
  split at h
  · cases h
  split at h
  · rename_i a1 a2 a3
    have hn : ps.length ≤ 32768 := by omega
    have := total_le ps (fun p hp => by have := a3 p hp; omega)
    exact ⟨hn, by have := Nat.mul_le_mul_right 4096 hn; omega⟩
  · cases h
theorem texts_totR {ps : List (List UInt8)} (h : textsErr ps 4096 1000 = 0) : ps.length ≤ 4096 ∧ total ps ≤ 16777216 := by
  rw [textsErr] at h
  split at h
  · cases h
  split at h
  · cases h
  split at h
  · rename_i a1 a2 a3
    have hn : ps.length ≤ 4096 := by omega
    have := total_le ps (fun p hp => by have := a3 p hp; omega)
    exact ⟨hn, by have := Nat.mul_le_mul_right 4096 hn; omega⟩
  · cases h
set_option maxRecDepth 100000 in
set_option maxHeartbeats 4000000 in
theorem layPart17_any {w : World} {hi xw : Nat} {x : Part} {uh ue up : Value} {S out : List UInt8} (hw : RWr w xw S 0) (hhi : hi ≤ xw) (hx : Ap w hi x uh ue up) (hq : lPart x (.ok S, false) = (.ok out, false)) (ho : S.length ≤ 1000000000000000) :
    Calls Tryz.prog 81 #[.pointer (some ⟨xw, 0, none⟩), rpV x uh ue up] w (DL w xw out) := by
  obtain ⟨p1, q1, rfl, _⟩ := id hx.s1
  obtain ⟨p2, q2, rfl, _⟩ := id hx.s2
  obtain ⟨p3, q3, rfl⟩ := id hx.s3
  obtain ⟨h1, h2⟩ := part_ok hq
  have hs := wi_iff.1 h1
  rw [rpV]
  obtain ⟨P, hP⟩ := pstr x.root
  rw [hP.out.1]
  have hxl := hw.lt
  have bA := (Below.refl w.heap.size w).alloc (Nat.le_refl _) (.cells #[.int .i64 x.status, .int .i64 x.size, .int .i64 x.a, .int .i64 x.b, .string P, .slice p1 x.hs.length q1, .slice p2 x.ent.length q2, .slice p3 x.n q3] 45)
  have rA := heap_alloc_new w (.cells #[.int .i64 x.status, .int .i64 x.size, .int .i64 x.a, .int .i64 x.b, .string P, .slice p1 x.hs.length q1, .slice p2 x.ent.length q2, .slice p3 x.n q3] 45)
  have zA := size_alloc w (.cells #[.int .i64 x.status, .int .i64 x.size, .int .i64 x.a, .int .i64 x.b, .string P, .slice p1 x.hs.length q1, .slice p2 x.ent.length q2, .slice p3 x.n q3] 45)
  have i1 := xwByte_any xw S 0 x.status _ (hw.below bA) (by omega)
  have hbe : byteErr x.status = 0 := by rw [byteErr, if_neg (by omega)]
  have HBE := hid hbe
  have RA := hid rA
  have HX := hid hx
  have BA := hid bA
  have y1 : ¬ x.status < 0 := by omega
  clear hw bA rA hx hq hbe
  rcases h2 with ⟨hn, rfl⟩ | ⟨h0, hr, hL⟩ | ⟨h0, hr, hL⟩
  · have y0 : (x.status == 0) = false := by simp [hn]
    clear hn hs h1
    go_enter Tryz.func81, Tryz.ntmps81
    go_wp2_with (go_at_call 69; fail)
    go_at_call 69
    refine i1.mono ?_
    intro e w1 hp
    obtain ⟨he, g1, g2⟩ := RPut.ok hp HBE.out
    subst he
    obtain ⟨c0, c1, c2, c3, c4, c5, c6, c7⟩ := rp_cells ((g2.block w.heap.size (by omega) (by omega)).trans RA.out)
    have K1 : Hid (Keep (fun k => k = xw) w w1) := (Keep.ofBelow BA.out : Keep (fun k => k = xw) w _).trans g2 (fun _ _ e => e)
    have G1 := hid g1
    clear hp g1 g2 i1
    go_wp2
    go_end0
    exact ⟨rfl, G1.out, K1.out⟩
  · have y0 : (x.status == 0) = true := by simp [h0]
    have t1 : P.toList.isEmpty = true := by rw [hP.out.2.1, decide_eq_true hr]
    obtain ⟨_, e2, rfl⟩ := lif_ok hL
    obtain ⟨n1, n2⟩ := hashes_tot e2
    have HE := hid e2
    rw [show UInt8.ofNat x.status.toNat = 0 from by rw [h0]; rfl] at i1
    clear h0 hs h1 hL e2
    go_enter Tryz.func81, Tryz.ntmps81
    go_wp2_with (go_at_call 69; fail)
    go_at_call 69
    refine i1.mono ?_
    intro e w1 hp
    obtain ⟨he, g1, g2⟩ := RPut.ok hp HBE.out
    subst he
    have z1 : w.heap.size < w1.heap.size := by have := g2.size; omega
    have R1 := hid ((g2.block w.heap.size (by omega) (by omega)).trans RA.out)
    obtain ⟨c0, c1, c2, c3, c4, c5, c6, c7⟩ := rp_cells R1.out
    have K1 : Hid (Keep (fun k => k = xw) w w1) := (Keep.ofBelow BA.out : Keep (fun k => k = xw) w _).trans g2 (fun _ _ e => e)
    have i2 := xwByte_any xw _ 0 0 w1 g1 (by rw [List.length_append]; simp; omega)
    clear hp g1 g2 i1
    go_wp2_with (go_at_call 69; fail)
    go_at_call 69
    refine i2.mono ?_
    intro e w2 hp
    obtain ⟨he, g1, g2⟩ := RPut.ok hp rfl
    subst he
    obtain ⟨c0, c1, c2, c3, c4, c5, c6, c7⟩ := rp_cells ((g2.block w.heap.size z1 (by omega)).trans R1.out)
    have K2 : Hid (Keep (fun k => k = xw) w w2) := K1.out.trans g2 (fun _ _ e => e)
    have bw : Below hi w w2 := K2.out.below (by omega) (fun j hj e => by omega)
    have i3 := xwHashes_any xw _ 0 _ x.hs 32768 (by omega) (by omega) w2 (HX.out.l1.slc HX.out.s1 bw) g1 (by rw [List.length_append, List.length_append]; simp; omega)
    clear hp g1 g2 i2
    go_wp2_with (go_at_call 80; fail)
    go_at_call 80
    refine i3.mono ?_
    intro e w3 hp
    obtain ⟨he, g1, g2⟩ := RPut.ok hp HE.out
    subst he
    have K3 : Hid (Keep (fun k => k = xw) w w3) := K2.out.trans g2 (fun _ _ e => e)
    have G3 := hid g1
    clear hp g1 g2 i3
    go_wp2
    go_end0
    exact ⟨rfl, G3.out, K3.out⟩
  · have y0 : (x.status == 0) = true := by simp [h0]
    have t1 : P.toList.isEmpty = false := by rw [hP.out.2.1, decide_eq_false hr]
    obtain ⟨e1, _, rfl⟩ := lif_ok hL
    have e1 := of_decide_eq_true e1
    have hPd : P.data.toList = x.root := by
      have h := hP.out.1
      unfold sv at h
      injection h with h
      rw [← h, sv_data]
    have hPz := hP.out.2.2
    have HPd := hid hPd
    rw [show UInt8.ofNat x.status.toNat = 0 from by rw [h0]; rfl] at i1
    clear h0 hs h1 hL hPd
    go_enter Tryz.func81, Tryz.ntmps81
    go_wp2_with (go_at_call 69; fail)
    go_at_call 69
    refine i1.mono ?_
    intro e w1 hp
    obtain ⟨he, g1, g2⟩ := RPut.ok hp HBE.out
    subst he
    have z1 : w.heap.size < w1.heap.size := by have := g2.size; omega
    have R1 := hid ((g2.block w.heap.size (by omega) (by omega)).trans RA.out)
    obtain ⟨c0, c1, c2, c3, c4, c5, c6, c7⟩ := rp_cells R1.out
    have K1 : Hid (Keep (fun k => k = xw) w w1) := (Keep.ofBelow BA.out : Keep (fun k => k = xw) w _).trans g2 (fun _ _ e => e)
    have i2 := xwByte_any xw _ 0 1 w1 g1 (by rw [List.length_append]; simp; omega)
    clear hp g1 g2 i1
    go_wp2_with (go_at_call 69; fail)
    go_at_call 69
    refine i2.mono ?_
    intro e w2 hp
    obtain ⟨he, g1, g2⟩ := RPut.ok hp rfl
    subst he
    obtain ⟨c0, c1, c2, c3, c4, c5, c6, c7⟩ := rp_cells ((g2.block w.heap.size z1 (by omega)).trans R1.out)
    have K2 : Hid (Keep (fun k => k = xw) w w2) := K1.out.trans g2 (fun _ _ e => e)
    have i3 := xwRaw_any xw _ 0 P w2 g1 (by rw [List.length_append, List.length_append]; simp; omega)
    rw [HPd.out] at i3
    clear hp g1 g2 i2
    go_wp2_with (go_at_call 79; fail)
    go_at_call 79
    refine i3.mono ?_
    intro e w3 hp
    obtain ⟨he, g1, g2⟩ := RPut.ok hp rfl
    subst he
    have K3 : Hid (Keep (fun k => k = xw) w w3) := K2.out.trans g2 (fun _ _ e => e)
    have G3 := hid g1
    clear hp g1 g2 i3
    go_wp2
    go_end0
    exact ⟨rfl, G3.out, K3.out⟩
end Msg
end Go.Proofs.YtmhgdcfmfcjagaaGreatDoor
