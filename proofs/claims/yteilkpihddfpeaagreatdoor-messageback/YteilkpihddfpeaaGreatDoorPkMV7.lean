import Derived.Test.YteilkpihddfpeaaGreatDoorPkMV5
import Derived.Test.YteilkpihddfpeaaGreatDoorPkMV3
import Derived.Test.YteilkpihddfpeaaGreatDoorPkMU1
import Derived.Test.YteilkpihddfpeaaGreatDoorPkMT1
import Derived.Deep.Slices
namespace Go.Proofs.YteilkpihddfpeaaGreatDoor
open Go.RowKit Cod
namespace Msg

/-- a PART that was taken as it should -/
structure Gp (x : Part) : Prop where
  fit : PFit x
  wi : wi x.status 0 8 = true
  self : x.status = 0 → setRs x (fmF x) (Part.of 0) = x
  oth : ¬ x.status = 0 → Part.of x.status = x
theorem lPart_not {x : Part} (h : Gp x) (h0 : ¬ x.status = 0) (s : LS) : lPart x s = lMark x.status 0 8 s := by
  rw [lPart, lTail, if_neg (by rw [isDn, decide_eq_false h0, Bool.and_false]; exact Bool.false_ne_true), stB, if_pos h.wi, h.oth h0, wholeP_self, Bool.not_true, Bool.or_false]
theorem lPart_done {x : Part} (h : Gp x) (h0 : x.status = 0) (s : LS) : lPart x s = lFrs x id (fmF x) (lMark (fm x) 0 1 (lMark 0 0 8 s)) := by
  have hi : isDn x.status 0 = true := by rw [isDn, h.wi, Bool.true_and]; exact decide_eq_true h0
  rw [lPart, lTail, if_pos hi, h.self h0, wholeP_self, Bool.not_true, Bool.or_false, h0]
theorem partL_yes {w : World} {base b c d : Nat} {v : Value} {s : LS} {x : Part} {uh ue up : Value} (h : Pa w base b c d v s x uh ue up Part.zero (.slice none 0 0) (.slice none 0 0) (.slice none 0 0)) (hg : Gp x) (hm : Sm s 140500000000000) :
    Calls Tryz.prog 98 #[.pointer (some ⟨d, 0, none⟩)] w fun e w' => e = .returned (.tuple #[]) ∧ GPost w base b c d v (lPart x s) x uh ue up x w' := by
  by_cases h0 : x.status = 0
  · have hs := hg.self h0
    rw [lPart_done hg h0]
    by_cases hr : x.root = []
    · have h1 : fm x = 0 := if_pos hr
      have h2 : fmF x = [.hashes] := if_pos hr
      have := partL_hashes h hg.fit hm h0 h1
      rw [h2] at hs
      rw [show setR x .hashes (Part.of 0) = x from hs] at this
      rw [h1, h2]
      exact this
    · have h1 : fm x = 1 := if_neg hr
      have h2 : fmF x = [.root] := if_neg hr
      have := partL_root h hg.fit hm h0 h1
      rw [h2] at hs
      rw [show setR x .root (Part.of 0) = x from hs] at this
      rw [h1, h2]
      exact this
  · have := partL_not h (hm.mono (by omega)) hg.wi h0
    rw [hg.oth h0] at this
    rw [lPart_not hg h0]
    exact this
theorem sm_part {x : Part} (h : Gp x) {s : LS} {m : Nat} (hs : Sm s m) : Sm (lPart x s) (m + 343597383680) := by
  by_cases h0 : x.status = 0
  · rw [lPart_done h h0]
    have h1 : Sm (lMark 0 0 8 s) (m + 1) := hs.lif _ _ _
    have h2 : Sm (lMark (fm x) 0 1 (lMark 0 0 8 s)) (m + 1 + 1) := h1.lif _ _ _
    have hl : (fmF x).length = 1 := by unfold fmF; split <;> rfl
    have := sm_fr h.fit (K := 68719476736) (da := id) (fs := fmF x) (Nat.le_refl _) (fun e => by unfold fmF at e; split at e <;> simp at e) (fmF x).length _ _ h2 (Nat.le_refl _)
    rw [List.take_length] at this
    exact this.mono (by rw [hl]; omega)
  · rw [lPart_not h h0]
    exact (hs.lif _ _ _).mono (by simp)
theorem sm_parts : ∀ (l : List Part) {s : LS} {m : Nat}, (∀ x ∈ l, Gp x) → Sm s m → Sm (l.foldl (fun s x => lPart x s) s) (m + l.length * 343597383680)
  | [], s, m, _, hs => by simpa using hs
  | x :: l, s, m, h, hs => by
    have := sm_parts l (s := lPart x s) (m := m + 343597383680) (fun y hy => h y (by simp [hy])) (sm_part (h x (by simp)) hs)
    rw [List.foldl_cons, List.length_cons]
    exact this.mono (by rw [Nat.add_mul]; omega)
theorem parts_snoc (l : List Part) (k : Nat) (hk : k < l.length) (s : LS) : (l.take (k + 1)).foldl (fun s x => lPart x s) s = lPart l[k] ((l.take k).foldl (fun s x => lPart x s) s) := by
  rw [List.take_add_one, List.getElem?_eq_getElem hk, List.foldl_append]; rfl
/-- what is handed in: lists below -/
structure Ap (w : World) (base : Nat) (x : Part) (uh ue up : Value) : Prop where
  l1 : Lw base uh
  l2 : Lw base ue
  s1 : Slc w uh x.hs
  s2 : Slc w ue x.ent
  s3 : ∃ p q, up = .slice p x.n q
/-- a reply on its way, made anew -/
theorem pa_new {w W : World} {base b c d : Nat} {v : Value} {s : LS} {x : Part} {uh ue up : Value} (h : Ly w base b c v s) (hx : Ap w base x uh ue up) (bW : Below w.heap.size w W) (hr : W.heap[d]? = some (.cells (rpArr (lay c) x uh ue up Part.zero (.slice none 0 0) (.slice none 0 0) (.slice none 0 0)) 76 (0, 0))) (hd : w.heap.size ≤ d) :
    Pa W base b c d v s x uh ue up Part.zero (.slice none 0 0) (.slice none 0 0) (.slice none 0 0) :=
  ⟨h.below bW, hr, fun e => by have := (h.ge' _ e).2; omega, Nat.le_trans h.base hd, hx.l1, hx.l2, hx.l1.slc hx.s1 (bW.mono h.base), hx.l2.slc hx.s2 (bW.mono h.base), hx.s3, ⟨_, _, rfl⟩, ⟨_, _, rfl⟩, ⟨_, _, rfl⟩⟩
/-- and what is left of it behind takes -/
theorem lo_end {w W w2 w4 : World} {base b c d : Nat} {v v' : Value} {s2 : LS} (bW : Below w.heap.size w W) (hd : w.heap.size ≤ d) (k : Keep (QSet b c d v) W w2) (f : From W v v') (h4 : Ly w4 base b c v' s2) (k4 : But c w2.drew w4) : Lo w base b c v s2 w4 := by
  refine ⟨v', h4, ?_, fun j hj => ?_⟩
  · have k1 : Keep (LSet b c v) w w2 := (Keep.ofBelow bW : Keep (LSet b c v) w _).trans k fun j hj e => by
      rcases e with e | e
      · omega
      · exact e
    exact (k1.drew).trans (T := fun k => k = c) (Keep.ofBut k4 rfl) fun j _ e => .inl e
  · rcases f j hj with g | g
    · exact .inl g
    · exact .inr (Nat.le_trans bW.size g)

set_option maxRecDepth 100000 in
set_option maxHeartbeats 4000000 in
theorem layParts_yes {w : World} {base lo0 b c : Nat} {v : Value} {s : LS} {u : Value} {l : List Part} (h : Ly w base b c v s) (hu : Ps w lo0 base u l) (hl : wi (l.length : Int) 1 64 = true) (hg : ∀ x ∈ l, Gp x) (hm : Sm s 29000000000000) :
    Calls Tryz.prog 89 #[.pointer (some ⟨c, 0, none⟩), u] w fun e w' => e = .returned u ∧ Lo w base b c v (lParts l s) w' := by
  have i1 := within_any (l.length : Int) 1 64 w
  have i2 := takes_any true w h
  rw [hl] at i1
  have hlen := wi_iff.1 hl
  rw [lParts, if_pos hl, lNum, lif_yes rfl]
  have HA := hid hu
  rcases hu with ⟨_, rfl⟩ | ⟨g, cap, rfl, g1, g2, g3, g4⟩
  · simp at hlen
  have h9 : (digs (l.length : Int).toNat).length ≤ 9 := digs_len9 (by omega)
  have HM := hid hm
  have HG := hid hg
  have HY := hid h
  have H9 := hid h9
  have hb1 : -9223372036854775808 ≤ (l.length : Int) := by omega
  have hb2 : (l.length : Int) ≤ 9223372036854775807 := by omega
  obtain ⟨s1, hs1⟩ : ∃ s1, Hid ((s.1.put (numErr (l.length : Int)) (digs (l.length : Int).toNat), s.2) = s1) := ⟨_, rfl⟩
  rw [hs1.out]
  clear h hm hg hl g4 h9
  go_enter Tryz.func89, Tryz.ntmps89
  go_wp2_with (first
    | (go_at_call 15; refine i1.mono ?_; rintro e w' ⟨rfl, hw'⟩; rw [hw']; clear hw' w')
    | (go_at_call 31; refine i2.mono ?_; rintro e w1 ⟨rfl, h1, h2⟩; have h1 := h1.yes; have d0 := h1.c0; have i3 := wNum_any base b v s.1 (l.length : Int) hb1 hb2 w1 h1.wri h1.base (fun bs e => by have := HM.out bs e; omega); have H1 := hid h1; have H2 := hid h2; clear h1 h2)
    | (go_at_call 94; refine i3.mono ?_; intro e w2 p; obtain ⟨hr, hlo⟩ := Lo.mk' H2.out H1.out p; subst hr; rw [hs1.out] at hlo; have HL := hid hlo; clear hlo p))
  have HS : Hid (Sm s1 29000000000009) := by
    have := HM.out.lif true (numErr (l.length : Int)) (digs (l.length : Int).toNat)
    rw [lif_yes rfl, hs1.out] at this
    exact this.mono (by have := H9.out; omega)
  clear i1 i2 i3 d0
  go_loopw [22] (fun i w' => ∃ k : Nat, k ≤ l.length ∧ i = .int .i64 k ∧ Hid (Lo w base b c v ((l.take k).foldl (fun s x => lPart x s) s1) w')) (fun i _ => l.length - (intOf i).toNat)
  case atStart => exact ⟨0, by omega, rfl, HL⟩
  case round =>
    obtain ⟨k, hk, rfl, hL⟩ := hrel
    by_cases hlt : k < l.length
    · have hlt' : (k : Int) < (l.length : Int) := by omega
      obtain ⟨v', y1, y2, y3⟩ := hL.out
      have bl : Below base w wr := Lo.bl HY.out y2
      rcases HA.out.bl bl with ⟨hz, _⟩ | ⟨g', cap', he, a1, a2, a3, a4⟩
      · cases hz
      injection he with he1 he2 he3
      injection he1 with he1
      injection he1 with he1
      subst he1
      clear he2
      have he3 := he3.symm
      subst he3
      obtain ⟨uh, ue, up, c0, c1, c2, c3, c4, c5, c6, c7, n1, n2, r1, r2, r3⟩ := a4 k l[k] (List.getElem?_eq_getElem hlt)
      have G := HG.out l[k] (List.getElem_mem hlt)
      have hS0 := sm_parts (l.take k) (fun x hx => HG.out x (List.mem_of_mem_take hx)) HS.out
      have hS := hS0.mono (k := 140500000000000) (by rw [List.length_take, Nat.min_eq_left hk]; omega)
      have hsn := parts_snoc l k hlt s1
      obtain ⟨p1, q1, rfl, _⟩ := id r1
      obtain ⟨p2, q2, rfl, _⟩ := id r2
      obtain ⟨p3, q3, rfl⟩ := id r3
      generalize l[k] = x at *
      have bA := ((Below.refl wr.heap.size wr).alloc (Nat.le_refl _) (.cells #[.int .i64 x.status, .int .i64 x.size, .int .i64 x.a, .int .i64 x.b, .string ⟨x.root.toArray⟩, .slice p1 x.hs.length q1, .slice p2 x.ent.length q2, .slice p3 x.n q3] 26)).alloc (by rw [size_alloc]; omega) (.cells (rpArr (lay c) x (.slice p1 x.hs.length q1) (.slice p2 x.ent.length q2) (.slice p3 x.n q3) Part.zero (.slice none 0 0) (.slice none 0 0) (.slice none 0 0)) 76)
      have hP := pa_new (d := wr.heap.size + 1) y1 ⟨n1.lw, n2.lw, r1, r2, ⟨p3, q3, rfl⟩⟩ bA (heap_alloc_at _ _ _ (size_alloc _ _)) (by omega)
      have i4 := partL_yes hP G hS
      have N : Hid (∀ w4 v2 w5, Keep (QSet b c (wr.heap.size + 1) v') ((wr.alloc (.cells #[.int .i64 x.status, .int .i64 x.size, .int .i64 x.a, .int .i64 x.b, .string ⟨x.root.toArray⟩, .slice p1 x.hs.length q1, .slice p2 x.ent.length q2, .slice p3 x.n q3] 26)).alloc (.cells (rpArr (lay c) x (.slice p1 x.hs.length q1) (.slice p2 x.ent.length q2) (.slice p3 x.n q3) Part.zero (.slice none 0 0) (.slice none 0 0) (.slice none 0 0)) 76)) w4 → From ((wr.alloc (.cells #[.int .i64 x.status, .int .i64 x.size, .int .i64 x.a, .int .i64 x.b, .string ⟨x.root.toArray⟩, .slice p1 x.hs.length q1, .slice p2 x.ent.length q2, .slice p3 x.n q3] 26)).alloc (.cells (rpArr (lay c) x (.slice p1 x.hs.length q1) (.slice p2 x.ent.length q2) (.slice p3 x.n q3) Part.zero (.slice none 0 0) (.slice none 0 0) (.slice none 0 0)) 76)) v' v2 → Ly w5 base b c v2 (lPart x ((l.take k).foldl (fun s x => lPart x s) s1)) → But c w4.drew w5 → Lo w base b c v ((l.take (k + 1)).foldl (fun s x => lPart x s) s1) w5) := fun w4 v2 w5 e1 e2 e3 e4 => by
        rw [hsn]
        exact Lo.step y2 y3 (lo_end bA (by omega) e1 e2 e3 e4)
      simp only [lay, rpArr, Part.zero, sv] at i4 N
      clear y1 y2 y3 bl a4 r1 r2 hS hS0 hsn bA G hP
      simp only [sv] at c4
      go_wp2_with (first
        | (go_at_call 98; refine i4.mono ?_; rintro e w4 ⟨rfl, v2, th, te, tp, j1, j2, j3⟩; have i5 := wholeP_yes j1; have i6 := takes_any true w4.drew j1.ly.drew; have J2 := hid j2; have J3 := hid j3; clear j1 j2 j3)
        | (go_at_call 32; refine i5.mono ?_; rintro e w5 ⟨rfl, rfl⟩)
        | (go_at_call 31; refine i6.mono ?_; rintro e w6 ⟨rfl, j4, j5⟩; have N1 := hid (N.out _ _ _ J2.out J3.out j4.yes j5); clear j4 j5))
      exact ⟨⟨k + 1, by omega, by go_num, N1⟩, by simp [intOf]; omega⟩
    · obtain rfl : k = l.length := by omega
      have hL2 := hL.out
      rw [List.take_length] at hL2
      have HL2 := hid hL2
      clear hL2
      go_wp2
      go_ret
      exact ⟨rfl, HL2.out⟩
end Msg
end Go.Proofs.YteilkpihddfpeaaGreatDoor

namespace Go.Proofs.YteilkpihddfpeaaGreatDoor
open Go.RowKit Cod
namespace Msg

set_option maxRecDepth 100000 in
set_option maxHeartbeats 2000000 in
theorem f_asks {w : World} {base lo0 b c d : Nat} {v : Value} {s : LS} {x : Ask} {ul ue ua : Value} {t : Ask} {tl te ta : Value} {l : List Ask} (h : Qa w base b c d v s x ul ue ua t tl te ta) (hu : As w lo0 base ua l) (hn : x.n = l.length) (hl : wi (l.length : Int) 1 64 = true) (hg : ∀ x ∈ l, Gd x 3 7) (hm : Sm s 29000000000000) :
    Calls Tryz.prog 62 #[.pointer (some ⟨d, 0, none⟩)] w fun e w' => e = .returned (.tuple #[]) ∧ FPost w base b c d v (lFq x (lAsks l) .asks s) x ul ue ua (setF x .asks t) w' := by
  have i1 := layAsks_yes h.ly.drew (hu.keep (S := fun _ => False) (Keep.refl _ w).drew (fun _ _ _ e => e)) hl hg hm
  obtain ⟨p1, q1, rfl⟩ := hu.shape
  have c0 : w.cell? ⟨d, 0, none⟩ = some (lay c) := by rw [cell_of_row _ _ _ _ _ _ h.row]; rfl
  have c4 : w.cell? ⟨d, 7, none⟩ = some (.slice p1 l.length q1) := by rw [cell_of_row _ _ _ _ _ _ h.row]; rfl
  rw [lay] at c0
  have mm := m_laying_asks ⟨c, 0, none⟩
  have HQ := hid h
  have HN := hid hn
  clear h hm hu hn hg hl
  go_enter Tryz.func62, Tryz.ntmps62
  go_region_held3 (fun w' => w'.cell? ⟨d, 0, none⟩ = some (.iface 72 (.pointer (some ⟨c, 0, none⟩))) ∧ w'.cell? ⟨d, 7, none⟩ = some (.slice p1 l.length q1)) (first | exact ⟨c0, c4⟩ | exact S2 | exact S3) (first | (go_at_call 86; (with_reducible refine i1.mono ?_); rintro e w2 ⟨rfl, hl⟩; have hl := hl.drew; have hrow := HQ.out.row2 hl; have g0 : w2.frozen? ⟨d, 14, none⟩ = false := frozen_of_row _ _ _ _ _ hrow; have e0 : w2.cell? ⟨d, 14, none⟩ = some ta := (by rw [cell_of_row _ _ _ _ _ _ hrow]; rfl); have S2 : w2.cell? ⟨d, 0, none⟩ = some (lay c) ∧ w2.cell? ⟨d, 7, none⟩ = some (.slice p1 l.length q1) := ⟨by rw [cell_of_row _ _ _ _ _ _ hrow]; rfl, by rw [cell_of_row _ _ _ _ _ _ hrow]; rfl⟩; have hrow3 := row_set 14 (.slice p1 l.length q1) hrow rfl; have S3 : (w2.setCell ⟨d, 14, none⟩ (.slice p1 l.length q1)).cell? ⟨d, 0, none⟩ = some (lay c) ∧ (w2.setCell ⟨d, 14, none⟩ (.slice p1 l.length q1)).cell? ⟨d, 7, none⟩ = some (.slice p1 l.length q1) := ⟨by rw [cell_of_row _ _ _ _ _ _ hrow3]; rfl, by rw [cell_of_row _ _ _ _ _ _ hrow3]; rfl⟩; rw [lay] at S2 S3; have HL := hid hl; clear hl hrow hrow3))
  go_end0
  exact ⟨rfl, HQ.out.put HL.out 14 _ _ _ _ _ rfl HQ.out.t1 HQ.out.t2 ⟨p1, q1, by rw [show (setF x .asks t).n = x.n from rfl, HN.out]⟩⟩
/-- a whole request, laid down -/
theorem request_yes {w : World} {base lo0 b c : Nat} {v : Value} {s : LS} {x : Ask} {ul ue ua : Value} {l : List Ask} (h : Ly w base b c v s) (hx : Ak w base x ul ue ua) (hg : Gd x 1 12) (hm : Sm s 1000000000000) (hu : x.kind = 12 → As w lo0 base ua l ∧ x.n = l.length ∧ wi (l.length : Int) 1 64 = true ∧ ∀ x ∈ l, Gd x 3 7) :
    Calls Tryz.prog 24 #[.pointer (some ⟨c, 0, none⟩), akV x ul ue ua, .int .i64 1, .int .i64 12] w fun e w' => e = .returned (.tuple #[]) ∧ Lo w base b c v (lRequest x l s) w' := by
  have hk := wi_iff.1 hg.wi
  have h12 : .asks ∈ flds x.kind.toNat → x.kind = 12 := fun e => by
    obtain ⟨n, hn⟩ := Int.eq_ofNat_of_zero_le (show 0 ≤ x.kind by omega)
    rw [hn, Int.toNat_natCast] at e
    rw [hn] at hk ⊢
    have h1 : 1 ≤ n := by omega
    have h2 : n ≤ 12 := by omega
    match n, h1, h2 with
    | 1, _, _ => simp [flds] at e
    | 2, _, _ => simp [flds] at e
    | 3, _, _ => simp [flds] at e
    | 4, _, _ => simp [flds] at e
    | 5, _, _ => simp [flds] at e
    | 6, _, _ => simp [flds] at e
    | 7, _, _ => simp [flds] at e
    | 8, _, _ => simp [flds] at e
    | 9, _, _ => simp [flds] at e
    | 10, _, _ => simp [flds] at e
    | 11, _, _ => simp [flds] at e
    | 12, _, _ => rfl
  have hd : .asks ∈ flds x.kind.toNat → ∀ s m, Sm s m → Sm (lAsks l s) (m + 27487790694400) := fun e s m hs => by
    obtain ⟨_, _, h3, h4⟩ := hu (h12 e)
    have hle := (wi_iff.1 h3).2
    rw [lAsks, if_pos h3]
    have h9 : (digs (l.length : Int).toNat).length ≤ 9 := digs_len9 (by omega)
    have h5 : Sm (lNum (l.length : Int) s) (m + 9) := (hs.lif _ _ _).mono (by omega)
    have := sm_asks l h4 h5
    exact this.mono (by have : l.length ≤ 64 := (by omega); have := Nat.mul_le_mul_right 343597383680 this; omega)
  by_cases h0 : x.kind = 12
  · obtain ⟨u1, u2, u3, u4⟩ := hu h0
    have hfl : flds x.kind.toNat = [.asks] := by rw [h0]; rfl
    refine reqL_yes h hx hg.fit hm (by omega) (K0 := 27487790694400) (by omega) (M := 29000000000000) (by rw [hfl]; decide) 1 12 hg.wi (by omega) (by omega) (lAsks l) (fun d g hgm => ?_) hd hg.self
    rw [hfl, List.mem_singleton] at hgm
    subst hgm
    intro w' v' s' t tl te ta hb hQ hS
    exact f_asks hQ (u1.bl hb) u2 u3 u4 hS
  · refine reqL_yes h hx hg.fit hm (by omega) (K0 := 68719476736) (by omega) (M := 29000000000000) (by have := flds_len x.kind.toNat; have : ((flds x.kind.toNat).length - 1) * 68719476736 ≤ 2 * 68719476736 := Nat.mul_le_mul_right _ (by omega); omega) 1 12 hg.wi (by omega) (by omega) (lAsks l) (fun d g hgm => fc_six (by omega) hg.fit g (fun e => h0 (h12 (e ▸ hgm)))) (fun e => absurd (h12 e) h0) hg.self
end Msg
end Go.Proofs.YteilkpihddfpeaaGreatDoor

namespace Go.Proofs.YteilkpihddfpeaaGreatDoor
open Go.RowKit Cod
namespace Msg

theorem ws_text (p : List UInt8) : (WSt.ok p).text = p := rfl
set_option maxRecDepth 100000 in
set_option maxHeartbeats 1000000 in
theorem frame_yes {w : World} {base b c : Nat} {v : Value} {p : List UInt8} (h : Ly w base b c v (.ok p, false)) (T : Lay w) (hp : p.length ≤ 1048576) :
    Calls Tryz.prog 18 #[.pointer (some ⟨c, 0, none⟩)] w fun e w' => e = .returned (.tuple #[sv (wrText p), .int .i64 0]) ∧ Below w.heap.size w w' := by
  have c0 := h.c0
  have i1 := wDone_any base b v (.ok p) w T h.wri
  rw [show (WSt.ok p).text = p from rfl, show (WSt.ok p).err = 0 from rfl, show sv p = .string ⟨p.toArray⟩ from rfl] at i1
  have HY := hid h
  clear h T
  go_enter Tryz.func18, Tryz.ntmps18
  go_wp2_with (first
    | (go_at_call 33; refine i1.mono ?_; rintro e w1 ⟨rfl, h1⟩; have d1 := (HY.out.below h1).c1; have i2 := frame_any ⟨p.toArray⟩ w1; rw [if_neg (by rw [sv_size]; omega), sv_data] at i2; have H1 := hid h1; clear h1)
    | (go_at_call 12; refine i2.mono ?_; rintro e w2 ⟨rfl, h2⟩; have H2 := hid (H1.out.trans (h2.mono H1.out.size)); clear h2))
  go_ret2
  exact ⟨rfl, H2.out⟩
theorem Ak.mono {w : World} {base base' : Nat} {x : Ask} {ul ue ua : Value} (h : Ak w base x ul ue ua) (hb : base ≤ base') : Ak w base' x ul ue ua :=
  ⟨fun y n c e h0 => Nat.lt_of_lt_of_le (h.l1 y n c e h0) hb, fun y n c e h0 => Nat.lt_of_lt_of_le (h.l2 y n c e h0) hb, h.s1, h.s2, h.s3⟩
theorem Ak.bl {w w' : World} {base : Nat} {x : Ask} {ul ue ua : Value} (h : Ak w base x ul ue ua) (hb : Below base w w') : Ak w' base x ul ue ua := ⟨h.l1, h.l2, h.l1.slcI h.s1 hb, h.l2.slc h.s2 hb, h.s3⟩
theorem El.monoX {w : World} {lo hi hi' g j : Nat} {x : Ask} (h : El w lo hi g j x) (hb : hi ≤ hi') : El w lo hi' g j x := by
  obtain ⟨ul, ue, ua, c0, c1, c2, c3, c4, c5, c6, n1, n2, s1, s2, s3⟩ := h
  exact ⟨ul, ue, ua, c0, c1, c2, c3, c4, c5, c6, n1.mono (Nat.le_refl _) hb, n2.mono (Nat.le_refl _) hb, s1, s2, s3⟩
theorem As.monoX {w : World} {lo hi hi' : Nat} {u : Value} {l : List Ask} (h : As w lo hi u l) (hb : hi ≤ hi') : As w lo hi' u l := by
  rcases h with h | ⟨g, cap, rfl, h1, h2, h3, h4⟩
  · exact .inl h
  · exact .inr ⟨g, cap, rfl, h1, by omega, h3, fun j x hx => (h4 j x hx).monoX hb⟩
/-- what was taken whole, and may be handed to Encode -/
structure Rq (w : World) (x : Ask) (l : List Ask) (ul ue ua : Value) : Prop where
  ak : Ak w w.heap.size x ul ue ua
  gd : Gd x 1 12
  ls : x.kind = 12 → As w 0 w.heap.size ua l ∧ x.n = l.length ∧ wi (l.length : Int) 1 64 = true ∧ ∀ x ∈ l, Gd x 3 7
set_option maxRecDepth 100000 in
set_option maxHeartbeats 2000000 in
theorem encode_yes {w : World} {x : Ask} {l : List Ask} {ul ue ua : Value} {p : List UInt8} (T : Lay w) (h : Rq w x l ul ue ua) (hq : lRequest x l (.ok [], false) = (.ok p, false)) (hp : p.length ≤ 1048576) :
    Calls Tryz.prog 10 #[akV x ul ue ua] w fun e w' => e = .returned (.tuple #[sv (wrText p), .int .i64 0]) ∧ Below w.heap.size w w' := by
  obtain ⟨p1, q1, rfl, _⟩ := id h.ak.s1
  obtain ⟨p2, q2, rfl, _⟩ := id h.ak.s2
  obtain ⟨p3, q3, rfl⟩ := id h.ak.s3
  have hT := T.lt
  have H := hid h
  have HT := hid T
  have HQ := hid hq
  have hw := h.gd.wi
  clear h T hq
  rw [akV]
  go_enter Tryz.func10, Tryz.ntmps10
  go_wp2_with (first
    | (go_at_call 15; refine (within_any _ _ _ _).mono ?_; rw [hw]; rintro e w' ⟨rfl, hw'⟩; rw [hw']; clear hw' w')
    | (go_at_call 16; fail))
  obtain ⟨w1, hw1⟩ : ∃ w1, Hid (w.alloc (.cells #[.int .i64 x.kind, .int .i64 x.a, .int .i64 x.b, .int .i64 x.size, .slice p1 x.list.length q1, .slice p2 x.ent.length q2, .slice p3 x.n q3] 40) = w1) := ⟨_, rfl⟩
  have b1 : Below w.heap.size w w1 := by rw [← hw1.out]; exact (Below.refl _ _).alloc (Nat.le_refl _) _
  have r1 : w1.heap[w.heap.size]? = some (.cells #[.int .i64 x.kind, .int .i64 x.a, .int .i64 x.b, .int .i64 x.size, .slice p1 x.list.length q1, .slice p2 x.ent.length q2, .slice p3 x.n q3] 40 (0, 0)) := by rw [← hw1.out]; exact heap_alloc_new _ _
  have z1 : w1.heap.size = w.heap.size + 1 := by rw [← hw1.out]; exact size_alloc _ _
  rw [hw1.out]
  go_at_call 16
  refine (newWriter_any w1).mono ?_
  rintro e w2 ⟨rfl, n1, n2, n3⟩
  obtain ⟨w3, hw3⟩ : ∃ w3, Hid (w2.alloc (.cells #[.pointer (some ⟨w1.heap.size, 0, none⟩), .bool false] 52) = w3) := ⟨_, rfl⟩
  have b3 : Below w2.heap.size w2 w3 := by rw [← hw3.out]; exact (Below.refl _ _).alloc (Nat.le_refl _) _
  have hr3 : w3.heap[w2.heap.size]? = some (.cells #[.pointer (some ⟨w1.heap.size, 0, none⟩), .bool false] 52 (0, 0)) := by rw [← hw3.out]; exact heap_alloc_new _ _
  have bb : Below w.heap.size w w3 := b1.trans ((n2.mono (by omega)).trans (b3.mono (by have := n2.size; omega)))
  have hY : Ly w3 w1.heap.size w1.heap.size w2.heap.size (.slice none 0 0) (.ok [], false) := ⟨hr3, n1.below b3, by omega, fun e => (by cases e), n2.size⟩
  have r3 : w2.heap[w.heap.size]? = some (.cells #[.int .i64 x.kind, .int .i64 x.a, .int .i64 x.b, .int .i64 x.size, .slice p1 x.list.length q1, .slice p2 x.ent.length q2, .slice p3 x.n q3] 40 (0, 0)) := (n2.block _ (by omega)).trans r1
  have c0 : w2.cell? ⟨w.heap.size, 0, none⟩ = some (.int .i64 x.kind) := by rw [cell_of_row _ _ _ _ _ _ r3]; rfl
  have c1 : w2.cell? ⟨w.heap.size, 1, none⟩ = some (.int .i64 x.a) := by rw [cell_of_row _ _ _ _ _ _ r3]; rfl
  have c2 : w2.cell? ⟨w.heap.size, 2, none⟩ = some (.int .i64 x.b) := by rw [cell_of_row _ _ _ _ _ _ r3]; rfl
  have c3 : w2.cell? ⟨w.heap.size, 3, none⟩ = some (.int .i64 x.size) := by rw [cell_of_row _ _ _ _ _ _ r3]; rfl
  have c4 : w2.cell? ⟨w.heap.size, 4, none⟩ = some (.slice p1 x.list.length q1) := by rw [cell_of_row _ _ _ _ _ _ r3]; rfl
  have c5 : w2.cell? ⟨w.heap.size, 5, none⟩ = some (.slice p2 x.ent.length q2) := by rw [cell_of_row _ _ _ _ _ _ r3]; rfl
  have c6 : w2.cell? ⟨w.heap.size, 6, none⟩ = some (.slice p3 x.n q3) := by rw [cell_of_row _ _ _ _ _ _ r3]; rfl
  have hm0 : Sm (WSt.ok [], false) 1000000000000 := fun bs e => by injection e with e; subst e; simp
  have i1 := request_yes (l := l) hY ((H.out.ak.bl bb).mono (by omega : w.heap.size ≤ w1.heap.size)) H.out.gd hm0 (fun e => by
    obtain ⟨a1, a2, a3, a4⟩ := H.out.ls e
    exact ⟨(a1.bl bb).monoX (by omega), a2, a3, a4⟩)
  rw [HQ.out, akV] at i1
  have HY := hid hY
  have BB := hid bb
  have hz3 : w1.heap.size < w3.heap.size := by have := n2.size; have := b3.size; omega
  have HT3 : Hid (Lay w3) := HT.out.below bb hT
  have hT1 : 1 ≤ w1.heap.size := by omega
  have hle : w.heap.size ≤ w1.heap.size := by omega
  have hlt2 : w.heap.size < w2.heap.size := by have := n2.size; omega
  have hne2 : ¬ w.heap.size = w2.heap.size := by omega
  clear n1 n2 n3 b1 b3 r1 z1 r3 hr3 hY bb hm0
  rw [← hw3.out] at i1
  go_wp2_with (first
    | (go_at_call 24; refine i1.mono ?_; rintro e w5 ⟨rfl, hlo⟩; rw [hw3.out] at hlo; obtain ⟨v', y1, y2, y3⟩ := hlo; have bl5 := Lo.bl HY.out y2; have i2 := frame_yes y1 (HT3.out.below bl5 hT1) hp; have B5 := hid (BB.out.trans (bl5.mono hle)); clear y1 y2 y3 bl5)
    | (go_at_call 18; refine i2.mono ?_; rintro e w6 ⟨rfl, h6⟩; have B6 := hid (B5.out.trans (h6.mono B5.out.size)); clear h6))
  go_ret2
  exact ⟨rfl, B6.out⟩
end Msg
end Go.Proofs.YteilkpihddfpeaaGreatDoor

namespace Go.Proofs.YteilkpihddfpeaaGreatDoor
open Go.RowKit Cod
namespace Msg

/-- what is wrong has a name -/
def Nzs (s : LS) : Prop := ∀ e, s.1 = .bad e → e ≠ 0
def NzL (L : LS → LS) : Prop := ∀ s, Nzs s → Nzs (L s)
theorem NzL.id : NzL id := fun _ h => h
theorem NzL.comp {L1 L2 : LS → LS} (h1 : NzL L1) (h2 : NzL L2) : NzL (fun s => L2 (L1 s)) := fun s h => h2 _ (h1 s h)
theorem nz_lif (ok : Bool) (e : Int) (l : List UInt8) : NzL (lif ok e l) := fun s h f hf => by
  rw [lif] at hf
  split at hf
  · have hf : s.1.put e l = .bad f := hf
    cases hs : s.1 with
    | bad g =>
      rw [hs, WSt.put] at hf
      injection hf with hf
      exact hf ▸ h g hs
    | ok bs =>
      rw [hs, WSt.put] at hf
      split at hf
      · cases hf
      · rename_i he
        injection hf with hf
        exact hf ▸ he
  · exact h f hf
theorem nz_fold {α : Type} (F : α → LS → LS) (hF : ∀ a, NzL (F a)) : ∀ l : List α, NzL (fun s => l.foldl (fun s a => F a s) s)
  | [] => NzL.id
  | a :: l => fun s h => nz_fold F hF l (F a s) (hF a s h)
theorem nz_nil : Nzs (.ok [], false) := fun e h => by cases h
/-- what frame answers -/
def frO (s : LS) : Value :=
  if s.1.err = 0 ∧ s.2 = false then (if 1048576 < s.1.text.length then .tuple #[sv [], .int .i64 174] else .tuple #[sv (wrText s.1.text), .int .i64 0]) else .tuple #[sv [], .int .i64 171]
theorem ws_some {s : LS} (h : Nzs s) (he : s.1.err = 0 ∧ s.2 = false) : ∃ p, s = (.ok p, false) := by
  obtain ⟨st, q⟩ := s
  obtain ⟨h1, h2⟩ := he
  have h2 : q = false := h2
  subst h2
  cases st with
  | ok p => exact ⟨p, rfl⟩
  | bad e => exact absurd h1 (h e rfl)
set_option maxRecDepth 100000 in
set_option maxHeartbeats 1000000 in
theorem frame_long {w : World} {base b c : Nat} {v : Value} {p : List UInt8} (h : Ly w base b c v (.ok p, false)) (T : Lay w) (hp : 1048576 < p.length) :
    Calls Tryz.prog 18 #[.pointer (some ⟨c, 0, none⟩)] w fun e w' => e = .returned (.tuple #[sv [], .int .i64 174]) ∧ Below w.heap.size w w' := by
  have c0 := h.c0
  have i1 := wDone_any base b v (.ok p) w T h.wri
  rw [show (WSt.ok p).text = p from rfl, show (WSt.ok p).err = 0 from rfl, show sv p = .string ⟨p.toArray⟩ from rfl] at i1
  have HY := hid h
  clear h T
  go_enter Tryz.func18, Tryz.ntmps18
  go_wp2_with (first
    | (go_at_call 33; refine i1.mono ?_; rintro e w1 ⟨rfl, h1⟩; have d1 := (HY.out.below h1).c1; have i2 := frame_any ⟨p.toArray⟩ w1; rw [if_pos (by rw [sv_size]; omega)] at i2; have H1 := hid h1; clear h1)
    | (go_at_call 12; refine i2.mono ?_; rintro e w2 ⟨rfl, h2⟩; have H2 := hid (H1.out.trans (h2.mono H1.out.size)); clear h2))
  go_ret2
  exact ⟨rfl, H2.out⟩
set_option maxRecDepth 100000 in
set_option maxHeartbeats 1000000 in
theorem frame_bad {w : World} {base b c : Nat} {v : Value} {s : LS} (h : Ly w base b c v s) (T : Lay w) (hs : ¬ s.1.err = 0) :
    Calls Tryz.prog 18 #[.pointer (some ⟨c, 0, none⟩)] w fun e w' => e = .returned (.tuple #[sv [], .int .i64 171]) ∧ Below w.heap.size w w' := by
  have c0 := h.c0
  have i1 := wDone_any base b v s.1 w T h.wri
  rw [show sv s.1.text = .string ⟨s.1.text.toArray⟩ from rfl] at i1
  generalize s.1.err = z at *
  generalize s.1.text = t at *
  have hb : (z == 0) = false := by simp [hs]
  clear h T
  go_enter Tryz.func18, Tryz.ntmps18
  go_wp2_with (first
    | (go_at_call 33; refine i1.mono ?_; rintro e w1 ⟨rfl, h1⟩; have H1 := hid h1; clear h1))
  go_ret2
  exact ⟨rfl, H1.out⟩
set_option maxRecDepth 100000 in
set_option maxHeartbeats 1000000 in
theorem frame_wrong {w : World} {base b c : Nat} {v : Value} {s : LS} (h : Ly w base b c v s) (T : Lay w) (hs : s.1.err = 0) (hq : s.2 = true) :
    Calls Tryz.prog 18 #[.pointer (some ⟨c, 0, none⟩)] w fun e w' => e = .returned (.tuple #[sv [], .int .i64 171]) ∧ Below w.heap.size w w' := by
  have c0 := h.c0
  have i1 := wDone_any base b v s.1 w T h.wri
  rw [show sv s.1.text = .string ⟨s.1.text.toArray⟩ from rfl, hs] at i1
  have HY := hid h
  have HQ := hid hq
  generalize s.1.text = t at i1
  clear h T hs hq
  go_enter Tryz.func18, Tryz.ntmps18
  go_wp2_with (first
    | (go_at_call 33; refine i1.mono ?_; rintro e w1 ⟨rfl, h1⟩; have d1 := (HY.out.below h1).c1; rw [HQ.out] at d1; have H1 := hid h1; clear h1))
  go_ret2
  exact ⟨rfl, H1.out⟩
theorem frameL_any {w : World} {base b c : Nat} {v : Value} {s : LS} (h : Ly w base b c v s) (T : Lay w) (hz : Nzs s) :
    Calls Tryz.prog 18 #[.pointer (some ⟨c, 0, none⟩)] w fun e w' => e = .returned (frO s) ∧ Below w.heap.size w w' := by
  by_cases hg : s.1.err = 0 ∧ s.2 = false
  · obtain ⟨p, rfl⟩ := ws_some hz hg
    rw [frO, if_pos hg]
    show Calls _ _ _ _ fun e w' => e = .returned (if 1048576 < p.length then .tuple #[sv [], .int .i64 174] else .tuple #[sv (wrText p), .int .i64 0]) ∧ _
    by_cases hp : 1048576 < p.length
    · rw [if_pos hp]; exact frame_long h T hp
    · rw [if_neg hp]; exact frame_yes h T (by omega)
  · rw [frO, if_neg hg]
    by_cases he : s.1.err = 0
    · exact frame_wrong h T he (by
        cases hq : s.2 with
        | true => rfl
        | false => exact absurd ⟨he, hq⟩ hg)
    · exact frame_bad h T he
set_option maxRecDepth 100000 in
theorem pick17_any (c n : Int) (hc1 : -9223372036854775808 ≤ c) (hc2 : c ≤ 9223372036854775807) (hn : 0 < n) (hn2 : n ≤ 9223372036854775807) (w : World) :
    Calls Tryz.prog 9 #[.int .i64 c, .int .i64 n] w fun e w' => e = .returned (.int .i64 (pk c n)) ∧ w' = w := by
  have hp0 := pk_nonneg c n hn
  have hp1 := pk_lt c n hn
  have hn0 : ¬ n = 0 := by omega
  by_cases h : c < 0
  · have e1 : IntKind.i64.wrap (c + 1) = c + 1 := by rw [IntKind.wrap_i64]; omega
    have e2 : IntKind.i64.wrap (-(c + 1)) = -(c + 1) := by rw [IntKind.wrap_i64]; omega
    have e3 : Int.tmod (-(c + 1)) n = pk c n := by rw [Int.tmod_eq_emod_of_nonneg (by omega), pk, if_pos h]
    have e4 : IntKind.i64.wrap (pk c n) = pk c n := wrap_small _ (by omega) (by omega)
    go_enter Tryz.func9, Tryz.ntmps9
    go_wp2
    go_ret
    exact ⟨rfl, rfl⟩
  · have e3 : Int.tmod c n = pk c n := by rw [Int.tmod_eq_emod_of_nonneg (by omega), pk, if_neg h]
    have e4 : IntKind.i64.wrap (pk c n) = pk c n := wrap_small _ (by omega) (by omega)
    go_enter Tryz.func9, Tryz.ntmps9
    go_wp2
    go_ret
    exact ⟨rfl, rfl⟩
theorem str_eta17 {l : List UInt8} {b : ByteArray} (h : sv l = .string b) : b.data.toList = l ∧ b.size = l.length := by
  unfold sv at h
  injection h with h
  rw [← h]
  exact ⟨sv_data l, sv_size l⟩
theorem app_data17 (a b : ByteArray) : (a ++ b).data.toList = a.data.toList ++ b.data.toList := by
  cases a; cases b
  rw [ByteArray.mk_append_mk]
theorem below_drewN17 {B : Nat} {a w : World} (h : Below B a w) (n : Nat) : Below B a (w.drewN n) := ⟨h.os, h.tape, h.output, h.size, h.block⟩
set_option maxRecDepth 100000 in
set_option maxHeartbeats 800000 in
theorem sameTexts_yes (l : List (List UInt8)) (ua ub : Value) (w : World) (ha : Slc w ua l) (hb : Slc w ub l) (hll : l.length ≤ maxLen) :
    Calls Tryz.prog 23 #[ua, ub] w fun e w' => e = .returned (.bool true) ∧ Below w.heap.size w w' := by
  obtain ⟨a, ca, rfl, ha⟩ := ha
  obtain ⟨d, cd, rfl, hd⟩ := hb
  unfold maxLen at hll
  have Ha := hid ha
  have Hd := hid hd
  clear ha hd
  go_enter Tryz.func23, Tryz.ntmps23
  go_wp2
  go_loopw [5] (fun i w' => ∃ k : Nat, k ≤ l.length ∧ i = .int .i64 k ∧ Hid (Below w.heap.size w w')) (fun i _ => l.length - (intOf i).toNat)
  case atStart => exact ⟨0, by omega, rfl, hid (Below.refl _ _)⟩
  case round =>
    obtain ⟨k, hk, rfl, hw'⟩ := hrel
    by_cases hlt : k < l.length
    · have b0 : (k : Int) < (l.length : Int) := by omega
      obtain ⟨x, rfl, xb, hx⟩ := Ha.out k l[k] (List.getElem?_eq_getElem hlt)
      rw [← hw'.out.cell (p := x.add k) (by rw [add_block]; exact xb)] at hx
      clear xb
      obtain ⟨y, rfl, yb, hy⟩ := Hd.out k l[k] (List.getElem?_eq_getElem hlt)
      rw [← hw'.out.cell (p := y.add k) (by rw [add_block]; exact yb)] at hy
      clear yb
      rw [sv] at hx hy
      generalize ByteArray.mk (l[k]).toArray = p at *
      have y1 : (p.toList == p.toList) = true := by simp
      have y2 : (p.toList != p.toList) = false := by simp
      go_wp2
      go_quiet (fail)
      go_wp2
      exact ⟨⟨k + 1, by omega, by go_num, hid (below_drewN17 hw'.out _)⟩, by simp [intOf]; omega⟩
    · have b0 : ¬ (k : Int) < (l.length : Int) := by omega
      go_wp2
      go_ret
      exact ⟨rfl, hw'.out⟩
theorem add_at (g o n : Nat) : (⟨g, o, none⟩ : Addr).add n = ⟨g, o + n, none⟩ := by
  unfold Addr.add
  split
  · simp_all
  · rfl
theorem SlcI.bl17 {w w' : World} {v : Value} {ps : List Int} (h : SlcI w v ps) (hb : Below w.heap.size w w') : SlcI w' v ps := by
  obtain ⟨a, cap, rfl, h⟩ := h
  refine ⟨a, cap, rfl, fun j p hp => ?_⟩
  obtain ⟨x, rfl, hx, hc⟩ := h j p hp
  exact ⟨x, rfl, Nat.lt_of_lt_of_le hx hb.size, (hb.cell (p := x.add j) (by rw [add_block]; exact hx)).trans hc⟩
end Msg
end Go.Proofs.YteilkpihddfpeaaGreatDoor
