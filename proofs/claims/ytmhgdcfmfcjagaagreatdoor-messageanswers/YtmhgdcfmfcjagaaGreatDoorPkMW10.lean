import Derived.Test.YtmhgdcfmfcjagaaGreatDoorPkMW7
import Derived.Test.YtmhgdcfmfcjagaaGreatDoorPkMT1
import Derived.Test.YtmhgdcfmfcjagaaGreatDoorPkMTE
namespace Go.Proofs.YtmhgdcfmfcjagaaGreatDoor
open Go.RowKit Cod
namespace Msg
def El (w : World) (lo hi g j : Nat) (x : Ask) : Prop :=
  ∃ ul ue ua, w.cell? ⟨g, j * 7, none⟩ = some (.int .i64 x.kind) ∧ w.cell? ⟨g, j * 7 + 1, none⟩ = some (.int .i64 x.a) ∧ w.cell? ⟨g, j * 7 + 2, none⟩ = some (.int .i64 x.b) ∧ w.cell? ⟨g, j * 7 + 3, none⟩ = some (.int .i64 x.size) ∧
    w.cell? ⟨g, j * 7 + 4, none⟩ = some ul ∧ w.cell? ⟨g, j * 7 + 5, none⟩ = some ue ∧ w.cell? ⟨g, j * 7 + 6, none⟩ = some ua ∧ Nw lo hi ul ∧ Nw lo hi ue ∧ SlcI w ul x.list ∧ Slc w ue x.ent ∧ ∃ p q, ua = .slice p x.n q
def As (w : World) (lo hi : Nat) (u : Value) (l : List Ask) : Prop :=
  (u = .slice none 0 0 ∧ l = []) ∨ ∃ g cap, u = .slice (some ⟨g, 0, none⟩) l.length cap ∧ lo ≤ g ∧ g < hi ∧ g < w.heap.size ∧ ∀ j x, l[j]? = some x → El w lo hi g j x
theorem El.keep {S : Nat → Prop} {w w' : World} {lo hi g j : Nat} {x : Ask} (h : El w lo hi g j x) (hb : Keep S w w') (hg : ¬ S g) (hl : g < w.heap.size) (hS : ∀ k, lo ≤ k → k < hi → ¬ S k) : El w' lo hi g j x := by
  obtain ⟨ul, ue, ua, c0, c1, c2, c3, c4, c5, c6, n1, n2, s1, s2, s3⟩ := h
  have key : ∀ o y, w.cell? ⟨g, o, none⟩ = some y → w'.cell? ⟨g, o, none⟩ = some y := fun o y e => by
    rw [World.cell?_of_block (w := w) (hb.block g hl hg)]; exact e
  exact ⟨ul, ue, ua, key _ _ c0, key _ _ c1, key _ _ c2, key _ _ c3, key _ _ c4, key _ _ c5, key _ _ c6, n1, n2, n1.slcI s1 hb hS, n2.slc s2 hb hS, s3⟩
theorem As.keep {S : Nat → Prop} {w w' : World} {lo hi : Nat} {u : Value} {l : List Ask} (h : As w lo hi u l) (hb : Keep S w w') (hS : ∀ k, lo ≤ k → k < hi → ¬ S k) : As w' lo hi u l := by
  rcases h with h | ⟨g, cap, rfl, h1, h2, h3, h4⟩
  · exact .inl h
  · exact .inr ⟨g, cap, rfl, h1, h2, Nat.lt_of_lt_of_le h3 hb.size, fun j x hx => (h4 j x hx).keep hb (hS g h1 h2) h3 hS⟩
theorem As.shape {w : World} {lo hi : Nat} {u : Value} {l : List Ask} (h : As w lo hi u l) : ∃ p q, u = .slice p l.length q := by
  rcases h with ⟨rfl, rfl⟩ | ⟨g, cap, rfl, _⟩
  · exact ⟨none, 0, rfl⟩
  · exact ⟨_, _, rfl⟩
theorem As.bl {w w' : World} {lo base : Nat} {u : Value} {l : List Ask} (h : As w lo base u l) (hb : Below base w w') : As w' lo base u l :=
  h.keep (S := fun k => base ≤ k) ⟨hb.os, hb.tape, hb.output, hb.size, fun k _ hk => hb.block k (by omega)⟩ (fun k _ h2 => by omega)
theorem Nw.lw {lo hi : Nat} {v : Value} (h : Nw lo hi v) : Lw hi v := fun x n c e _ => (h x n c e).2
structure Gd (x : Ask) (lo hi : Int) : Prop where
  fit : Fit x
  wi : wi x.kind lo hi = true
  self : setFs x (flds x.kind.toNat) (Ask.of x.kind) = x
theorem no_asks {k : Int} (h : Msg.wi k 3 7 = true) : ∀ g ∈ flds k.toNat, g ≠ .asks := by
  have hk := wi_iff.1 h
  obtain ⟨n, rfl⟩ := Int.eq_ofNat_of_zero_le (show 0 ≤ k by omega)
  rw [Int.toNat_natCast]
  have h1 : 3 ≤ n := by omega
  have h2 : n ≤ 7 := by omega
  intro g hg e
  subst e
  match n, h1, h2 with
  | 3, _, _ => simp [flds] at hg
  | 4, _, _ => simp [flds] at hg
  | 5, _, _ => simp [flds] at hg
  | 6, _, _ => simp [flds] at hg
  | 7, _, _ => simp [flds] at hg
theorem lReq_yes {x : Ask} {lo hi : Int} (h : Gd x lo hi) (da : LS → LS) (s : LS) : lReq x da lo hi s = lFlds x da (flds x.kind.toNat) (lMark x.kind lo hi s) := by
  rw [lReq, if_pos h.wi, h.self, whole_self, Bool.not_true, Bool.or_false]
theorem sm_ask {x : Ask} (h : Gd x 3 7) {s : LS} {m : Nat} (hs : Sm s m) : Sm (lAsk x s) (m + 343597383680) := by
  rw [lAsk, lReq_yes h]
  have h3 := flds_len x.kind.toNat
  have hm : Sm (lMark x.kind 3 7 s) (m + 1) := hs.lif _ _ _
  have := sm_fq h.fit (K := 68719476736) (da := id) (fs := flds x.kind.toNat) (Nat.le_refl _) (fun e => absurd rfl (no_asks h.wi _ e)) (flds x.kind.toNat).length _ _ hm (Nat.le_refl _)
  rw [List.take_length] at this
  refine this.mono ?_
  have : (flds x.kind.toNat).length * 68719476736 ≤ 3 * 68719476736 := Nat.mul_le_mul_right _ h3
  omega
theorem sm_asks : ∀ (l : List Ask) {s : LS} {m : Nat}, (∀ x ∈ l, Gd x 3 7) → Sm s m → Sm (l.foldl (fun s x => lAsk x s) s) (m + l.length * 343597383680)
  | [], s, m, _, hs => by simpa using hs
  | x :: l, s, m, h, hs => by
    have := sm_asks l (s := lAsk x s) (m := m + 343597383680) (fun y hy => h y (by simp [hy])) (sm_ask (h x (by simp)) hs)
    rw [List.foldl_cons, List.length_cons]
    exact this.mono (by rw [Nat.add_mul]; omega)
theorem asks_snoc (l : List Ask) (k : Nat) (hk : k < l.length) (s : LS) : (l.take (k + 1)).foldl (fun s x => lAsk x s) s = lAsk l[k] ((l.take k).foldl (fun s x => lAsk x s) s) := by
  rw [List.take_add_one, List.getElem?_eq_getElem hk, List.foldl_append]; rfl
set_option maxRecDepth 100000 in
set_option maxHeartbeats 4000000 in
theorem layAsks_yes {w : World} {base lo0 b c : Nat} {v : Value} {s : LS} {u : Value} {l : List Ask} (h : Ly w base b c v s) (hu : As w lo0 base u l) (hl : wi (l.length : Int) 1 64 = true) (hg : ∀ x ∈ l, Gd x 3 7) (hm : Sm s 29000000000000) :
    Calls Tryz.prog 150 #[.pointer (some ⟨c, 0, none⟩), u] w fun e w' => e = .returned u ∧ Lo w base b c v (lAsks l s) w' := by
  have i1 := within_any (l.length : Int) 1 64 w
  have i2 := takes_any true w h
  rw [hl] at i1
  have hlen := wi_iff.1 hl
  rw [lAsks, if_pos hl, lNum, lif_yes rfl]
  have HA := hid hu
  rcases hu with ⟨_, rfl⟩ | ⟨g, cap, rfl, g1, g2, g3, g4⟩
  · simp at hlen
  have h9 : (digs (l.length : Int).toNat).length ≤ 9 := digs_len9 (by omega)
  have HM := hid hm
  have HG := hid hg
  have HY := hid h
  have H9 := hid h9
  have hb1 : -9223372036854775808 ≤ (l.length : Int) := by omega
  have hb2 : (l.length : Int) ≤ 9223372036854775807 := by omega
  obtain ⟨s1, hs1⟩ : ∃ s1, Hid ((s.1.put (numErr (l.length : Int)) (digs (l.length : Int).toNat), s.2) = s1) := ⟨_, rfl⟩
  rw [hs1.out]
  clear h hm hg hl g4 h9
  go_enter Tryz.func150, Tryz.ntmps150
  go_wp2_with (first
    | (go_at_call 28; refine i1.mono ?_; rintro e w' ⟨rfl, hw'⟩; rw [hw']; clear hw' w')
    | (go_at_call 60; refine i2.mono ?_; rintro e w1 ⟨rfl, h1, h2⟩; have h1 := h1.yes; have d0 := h1.c0; have i3 := wNum_any base b v s.1 (l.length : Int) hb1 hb2 w1 h1.wri h1.base (fun bs e => by have := HM.out bs e; omega); have H1 := hid h1; have H2 := hid h2; clear h1 h2)
    | (go_at_call 158; refine i3.mono ?_; intro e w2 p; obtain ⟨hr, hlo⟩ := Lo.mk' H2.out H1.out p; subst hr; rw [hs1.out] at hlo; have HL := hid hlo; clear hlo p))
  have HS : Hid (Sm s1 29000000000009) := by
    have := HM.out.lif true (numErr (l.length : Int)) (digs (l.length : Int).toNat)
    rw [lif_yes rfl, hs1.out] at this
    exact this.mono (by have := H9.out; omega)
  clear i1 i2 i3 d0
  go_loopw [21] (fun i w' => ∃ k : Nat, k ≤ l.length ∧ i = .int .i64 k ∧ Hid (Lo w base b c v ((l.take k).foldl (fun s x => lAsk x s) s1) w')) (fun i _ => l.length - (intOf i).toNat)
  case atStart => exact ⟨0, by omega, rfl, HL⟩
  case round =>
    obtain ⟨k, hk, rfl, hL⟩ := hrel
    by_cases hlt : k < l.length
    · have hlt' : (k : Int) < (l.length : Int) := by omega
      obtain ⟨v', y1, y2, y3⟩ := hL.out
      have bl : Below base w wr := Lo.bl HY.out y2
      rcases HA.out.bl bl with ⟨hz, _⟩ | ⟨g', cap', he, a1, a2, a3, a4⟩
      · cases hz
      injection he with he1 he2 he3
      injection he1 with he1
      injection he1 with he1
      subst he1
      clear he2
      have he3 := he3.symm
      subst he3
      obtain ⟨ul, ue, ua, c0, c1, c2, c3, c4, c5, c6, n1, n2, r1, r2, r3⟩ := a4 k l[k] (List.getElem?_eq_getElem hlt)
      have G := HG.out l[k] (List.getElem_mem hlt)
      have hS0 := sm_asks (l.take k) (fun x hx => HG.out x (List.mem_of_mem_take hx)) HS.out
      have hS := hS0.mono (k := 58000000000000) (by rw [List.length_take, Nat.min_eq_left hk]; omega)
      have hsn := asks_snoc l k hlt s1
      obtain ⟨p1, q1, rfl, _⟩ := id r1
      obtain ⟨p2, q2, rfl, _⟩ := id r2
      obtain ⟨p3, q3, rfl⟩ := id r3
      generalize l[k] = x at *
      have bA := (Below.refl wr.heap.size wr).alloc (Nat.le_refl _) (.cells #[.int .i64 x.kind, .int .i64 x.a, .int .i64 x.b, .int .i64 x.size, .slice p1 x.list.length q1, .slice p2 x.ent.length q2, .slice p3 x.n q3] 26)
      have i4 := reqL_yes (y1.below bA) ⟨n1.lw, n2.lw, n1.lw.slcI r1 (bA.mono y1.base), n2.lw.slc r2 (bA.mono y1.base), ⟨p3, q3, rfl⟩⟩ G.fit hS (Nat.le_refl _) (K0 := 68719476736) (Nat.le_refl _) (M := 140600000000000) (by have := flds_len x.kind.toNat; have : ((flds x.kind.toNat).length - 1) * 68719476736 ≤ 2 * 68719476736 := Nat.mul_le_mul_right _ (by omega); omega) 3 7 G.wi (by omega) (by omega) id (fun d g hg => fc_six (Nat.le_refl _) G.fit g (no_asks G.wi g hg)) (fun e => absurd rfl (no_asks G.wi _ e)) G.self
      rw [akV] at i4
      have N : Hid (∀ w5, Lo (wr.alloc (.cells #[.int .i64 x.kind, .int .i64 x.a, .int .i64 x.b, .int .i64 x.size, .slice p1 x.list.length q1, .slice p2 x.ent.length q2, .slice p3 x.n q3] 26)) base b c v' (lReq x id 3 7 ((l.take k).foldl (fun s x => lAsk x s) s1)) w5 → Lo w base b c v ((l.take (k + 1)).foldl (fun s x => lAsk x s) s1) w5) := fun w5 p => by
        rw [hsn]
        exact Lo.step (y2.trans (T := fun _ => False) (Keep.ofBelow bA) (fun _ _ e => e.elim)) y3 p
      clear y1 y2 y3 bl a4 r1 r2 hS hS0 hsn bA G
      go_wp2_with (go_at_call 30; refine i4.mono ?_; rintro e w5 ⟨rfl, p⟩; have N1 := hid (N.out _ p); clear p)
      exact ⟨⟨k + 1, by omega, by go_num, N1⟩, by simp [intOf]; omega⟩
    · obtain rfl : k = l.length := by omega
      have hL2 := hL.out
      rw [List.take_length] at hL2
      have HL2 := hid hL2
      clear hL2
      go_wp2
      go_ret
      exact ⟨rfl, HL2.out⟩
end Msg
end Go.Proofs.YtmhgdcfmfcjagaaGreatDoor

namespace Go.Proofs.YtmhgdcfmfcjagaaGreatDoor
open Go.RowKit Cod
namespace Msg
def tak (c : Nat) : Value := .iface 127 (.pointer (some ⟨c, 0, none⟩))
def DSet (b c d : Nat) : Nat → Prop := fun k => k = b ∨ k = c ∨ k = d
structure Ra (w : World) (B b c d : Nat) (p : PT) (tl te ta : Value) : Prop where
  tk : Tk w b c p.2
  row : w.heap[d]? = some (.cells (aqArr (tak c) Ask.zero (.slice none 0 0) (.slice none 0 0) (.slice none 0 0) p.1.1 tl te ta) 100 (0, 0))
  db : d ≠ b
  dc : d ≠ c
  hb : b < B
  hc : c < B
  hd : d < B
  s1 : SlcI w tl p.1.1.list
  n1 : Nw B w.heap.size tl
  s2 : Slc w te p.1.1.ent
  n2 : Nw B w.heap.size te
  s3 : As w B w.heap.size ta p.1.2
  sn : p.1.1.n = p.1.2.length
  ow : RaO w B p.1 tl te ta
def RPost (w : World) (B b c d : Nat) (p : PT) (w' : World) : Prop := ∃ tl te ta, Ra w' B b c d p tl te ta ∧ Keep (DSet b c d) w w'
theorem Ra.lt {w : World} {B b c d : Nat} {p : PT} {tl te ta : Value} (h : Ra w B b c d p tl te ta) : d < w.heap.size := lt_of_heap h.row
theorem Ra.nS {B b c k : Nat} (hb : b < B) (hc : c < B) (hk : B ≤ k) : ¬ BC b c k := fun e => by
  rcases e with e | e <;> omega
theorem Ra.row2 {w w2 : World} {B b c d : Nat} {p : PT} {tl te ta : Value} (h : Ra w B b c d p tl te ta) (hk : Keep (BC b c) w w2) : w2.heap[d]? = some (.cells (aqArr (tak c) Ask.zero (.slice none 0 0) (.slice none 0 0) (.slice none 0 0) p.1.1 tl te ta) 100 (0, 0)) :=
  (hk.block d h.lt (fun e => by rcases e with e | e; exact h.db e; exact h.dc e)).trans h.row
theorem Ra.o1 {w w2 : World} {B b c d : Nat} {p : PT} {tl te ta : Value} (h : Ra w B b c d p tl te ta) (hk : Keep (BC b c) w w2) : SlcI w2 tl p.1.1.list ∧ Nw B w2.heap.size tl :=
  ⟨h.n1.slcI h.s1 hk (fun _ k1 _ => Ra.nS h.hb h.hc k1), h.n1.mono (Nat.le_refl _) hk.size⟩
theorem Ra.o2 {w w2 : World} {B b c d : Nat} {p : PT} {tl te ta : Value} (h : Ra w B b c d p tl te ta) (hk : Keep (BC b c) w w2) : Slc w2 te p.1.1.ent ∧ Nw B w2.heap.size te :=
  ⟨h.n2.slc h.s2 hk (fun _ k1 _ => Ra.nS h.hb h.hc k1), h.n2.mono (Nat.le_refl _) hk.size⟩
theorem El.mono' {w : World} {lo hi hi' g j : Nat} {x : Ask} (h : El w lo hi g j x) (hb : hi ≤ hi') : El w lo hi' g j x := by
  obtain ⟨ul, ue, ua, c0, c1, c2, c3, c4, c5, c6, n1, n2, s1, s2, s3⟩ := h
  exact ⟨ul, ue, ua, c0, c1, c2, c3, c4, c5, c6, n1.mono (Nat.le_refl _) hb, n2.mono (Nat.le_refl _) hb, s1, s2, s3⟩
theorem As.mono' {w : World} {lo hi hi' : Nat} {u : Value} {l : List Ask} (h : As w lo hi u l) (hb : hi ≤ hi') : As w lo hi' u l := by
  rcases h with h | ⟨g, cap, rfl, h1, h2, h3, h4⟩
  · exact .inl h
  · exact .inr ⟨g, cap, rfl, h1, by omega, h3, fun j x hx => (h4 j x hx).mono' hb⟩
theorem Ra.o3 {w w2 : World} {B b c d : Nat} {p : PT} {tl te ta : Value} (h : Ra w B b c d p tl te ta) (hk : Keep (BC b c) w w2) : As w2 B w2.heap.size ta p.1.2 :=
  (h.s3.keep hk (fun _ k1 _ => Ra.nS h.hb h.hc k1)).mono' hk.size
theorem Ra.o4 {w w2 : World} {B b c d : Nat} {p : PT} {tl te ta : Value} (h : Ra w B b c d p tl te ta) (hk : Keep (BC b c) w w2) : RaO w2 B p.1 tl te ta :=
  h.ow.keep hk (fun _ k1 _ => Ra.nS h.hb h.hc k1)
theorem Ra.put {w w2 : World} {B b c d : Nat} {p : PT} {tl te ta : Value} (h : Ra w B b c d p tl te ta) (hk : Keep (BC b c) w w2) (p' : PT) (ht : Tk w2 b c p'.2)
    (o : Nat) (u : Value) (tl' te' ta' : Value) (hr : (aqArr (tak c) Ask.zero (.slice none 0 0) (.slice none 0 0) (.slice none 0 0) p.1.1 tl te ta).setIfInBounds o u = aqArr (tak c) Ask.zero (.slice none 0 0) (.slice none 0 0) (.slice none 0 0) p'.1.1 tl' te' ta')
    (a1 : SlcI w2 tl' p'.1.1.list ∧ Nw B w2.heap.size tl') (a2 : Slc w2 te' p'.1.1.ent ∧ Nw B w2.heap.size te') (a3 : As w2 B w2.heap.size ta' p'.1.2) (an : p'.1.1.n = p'.1.2.length) (aw : RaO w2 B p'.1 tl' te' ta') : RPost w B b c d p' (w2.setCell ⟨d, o, none⟩ u) := by
  have hrow := h.row2 hk
  have k2 : Keep (fun k => k = d) w2 (w2.setCell ⟨d, o, none⟩ u) := Keep.ofBut ((But.refl d w2).setCell o u) rfl
  have hS : ∀ k, B ≤ k → k < w2.heap.size → ¬ k = d := fun k k1 _ e => by have := h.hd; omega
  have hsz : (w2.setCell ⟨d, o, none⟩ u).heap.size = w2.heap.size := World.size_setCell _ _ _
  refine ⟨tl', te', ta', ⟨ht.keep k2 (fun e => h.db e.symm) (fun e => h.dc e.symm), row_set o u hrow hr, h.db, h.dc, h.hb, h.hc, h.hd, a1.2.slcI a1.1 k2 hS, by rw [hsz]; exact a1.2, a2.2.slc a2.1 k2 hS, by rw [hsz]; exact a2.2, by rw [hsz]; exact a3.keep k2 hS, an, aw.keep k2 hS⟩, ?_⟩
  refine (hk.mono (T := DSet b c d) fun k _ e => ?_).setCell d o u (.inr (.inr rfl))
  rcases e with e | e
  · exact .inl e
  · exact .inr (.inl e)
theorem Keep.drew' {S : Nat → Prop} {w w' : World} (h : Keep S w.drew w') : Keep S w w' := ⟨h.os, h.tape, h.output, h.size, h.block⟩
set_option maxRecDepth 100000 in
set_option maxHeartbeats 2000000 in
theorem r_a {w : World} {B b c d : Nat} {p : PT} {tl te ta : Value} (h : Ra w B b c d p tl te ta) (hB : B ≤ w.heap.size) (da : TS → List Ask × TS) :
    Calls Tryz.prog 107 #[.pointer (some ⟨d, 0, none⟩)] w fun e w' => e = .returned (.tuple #[]) ∧ RPost w B b c d (tFq da .a p) w' := by
  have c0 : w.cell? ⟨d, 0, none⟩ = some (tak c) := by rw [cell_of_row _ _ _ _ _ _ h.row]; rfl
  have c4 : w.cell? ⟨d, 2, none⟩ = some (.int .i64 0) := by rw [cell_of_row _ _ _ _ _ _ h.row]; rfl
  have i1 := takeSize_any 0 w.drew h.tk.drew
  rw [tak] at c0
  have mm := m_taking_size ⟨c, 0, none⟩
  have HQ := hid h
  have HB := hid hB
  clear h hB
  go_enter Tryz.func107, Tryz.ntmps107
  go_region_held3 (fun w' => w'.cell? ⟨d, 0, none⟩ = some (.iface 127 (.pointer (some ⟨c, 0, none⟩))) ∧ w'.cell? ⟨d, 2, none⟩ = some (.int .i64 0)) (first | exact ⟨c0, c4⟩ | exact S2 | exact S3) (first | (go_at_call 179; (with_reducible refine i1.mono ?_); rintro e w2 ⟨rfl, ht, hk⟩; have hk := Keep.drew' hk; have hrow := HQ.out.row2 hk; have g0 : w2.frozen? ⟨d, 9, none⟩ = false := frozen_of_row _ _ _ _ _ hrow; have e0 : w2.cell? ⟨d, 9, none⟩ = some (.int .i64 p.1.1.a) := (by rw [cell_of_row _ _ _ _ _ _ hrow]; rfl); have S2 : w2.cell? ⟨d, 0, none⟩ = some (tak c) ∧ w2.cell? ⟨d, 2, none⟩ = some (.int .i64 0) := ⟨by rw [cell_of_row _ _ _ _ _ _ hrow]; rfl, by rw [cell_of_row _ _ _ _ _ _ hrow]; rfl⟩; have hrow3 := row_set 9 (.int .i64 ((tSize p.2).1 : Int)) hrow rfl; have S3 : (w2.setCell ⟨d, 9, none⟩ (.int .i64 ((tSize p.2).1 : Int))).cell? ⟨d, 0, none⟩ = some (tak c) ∧ (w2.setCell ⟨d, 9, none⟩ (.int .i64 ((tSize p.2).1 : Int))).cell? ⟨d, 2, none⟩ = some (.int .i64 0) := ⟨by rw [cell_of_row _ _ _ _ _ _ hrow3]; rfl, by rw [cell_of_row _ _ _ _ _ _ hrow3]; rfl⟩; rw [tak] at S2 S3; have HK := hid hk; have HT := hid ht; clear hk ht hrow hrow3))
  go_end0
  exact ⟨rfl, HQ.out.put HK.out (tFq da .a p) HT.out 9 _ _ _ _ rfl (HQ.out.o1 HK.out) (HQ.out.o2 HK.out) (HQ.out.o3 HK.out) HQ.out.sn (HQ.out.o4 HK.out)⟩
set_option maxRecDepth 100000 in
set_option maxHeartbeats 2000000 in
theorem r_b {w : World} {B b c d : Nat} {p : PT} {tl te ta : Value} (h : Ra w B b c d p tl te ta) (hB : B ≤ w.heap.size) (da : TS → List Ask × TS) :
    Calls Tryz.prog 110 #[.pointer (some ⟨d, 0, none⟩)] w fun e w' => e = .returned (.tuple #[]) ∧ RPost w B b c d (tFq da .b p) w' := by
  have c0 : w.cell? ⟨d, 0, none⟩ = some (tak c) := by rw [cell_of_row _ _ _ _ _ _ h.row]; rfl
  have c4 : w.cell? ⟨d, 3, none⟩ = some (.int .i64 0) := by rw [cell_of_row _ _ _ _ _ _ h.row]; rfl
  have i1 := takeSize_any 0 w.drew h.tk.drew
  rw [tak] at c0
  have mm := m_taking_size ⟨c, 0, none⟩
  have HQ := hid h
  have HB := hid hB
  clear h hB
  go_enter Tryz.func110, Tryz.ntmps110
  go_region_held3 (fun w' => w'.cell? ⟨d, 0, none⟩ = some (.iface 127 (.pointer (some ⟨c, 0, none⟩))) ∧ w'.cell? ⟨d, 3, none⟩ = some (.int .i64 0)) (first | exact ⟨c0, c4⟩ | exact S2 | exact S3) (first | (go_at_call 179; (with_reducible refine i1.mono ?_); rintro e w2 ⟨rfl, ht, hk⟩; have hk := Keep.drew' hk; have hrow := HQ.out.row2 hk; have g0 : w2.frozen? ⟨d, 10, none⟩ = false := frozen_of_row _ _ _ _ _ hrow; have e0 : w2.cell? ⟨d, 10, none⟩ = some (.int .i64 p.1.1.b) := (by rw [cell_of_row _ _ _ _ _ _ hrow]; rfl); have S2 : w2.cell? ⟨d, 0, none⟩ = some (tak c) ∧ w2.cell? ⟨d, 3, none⟩ = some (.int .i64 0) := ⟨by rw [cell_of_row _ _ _ _ _ _ hrow]; rfl, by rw [cell_of_row _ _ _ _ _ _ hrow]; rfl⟩; have hrow3 := row_set 10 (.int .i64 ((tSize p.2).1 : Int)) hrow rfl; have S3 : (w2.setCell ⟨d, 10, none⟩ (.int .i64 ((tSize p.2).1 : Int))).cell? ⟨d, 0, none⟩ = some (tak c) ∧ (w2.setCell ⟨d, 10, none⟩ (.int .i64 ((tSize p.2).1 : Int))).cell? ⟨d, 3, none⟩ = some (.int .i64 0) := ⟨by rw [cell_of_row _ _ _ _ _ _ hrow3]; rfl, by rw [cell_of_row _ _ _ _ _ _ hrow3]; rfl⟩; rw [tak] at S2 S3; have HK := hid hk; have HT := hid ht; clear hk ht hrow hrow3))
  go_end0
  exact ⟨rfl, HQ.out.put HK.out (tFq da .b p) HT.out 10 _ _ _ _ rfl (HQ.out.o1 HK.out) (HQ.out.o2 HK.out) (HQ.out.o3 HK.out) HQ.out.sn (HQ.out.o4 HK.out)⟩
set_option maxRecDepth 100000 in
set_option maxHeartbeats 2000000 in
theorem r_size {w : World} {B b c d : Nat} {p : PT} {tl te ta : Value} (h : Ra w B b c d p tl te ta) (hB : B ≤ w.heap.size) (da : TS → List Ask × TS) :
    Calls Tryz.prog 106 #[.pointer (some ⟨d, 0, none⟩)] w fun e w' => e = .returned (.tuple #[]) ∧ RPost w B b c d (tFq da .size p) w' := by
  have c0 : w.cell? ⟨d, 0, none⟩ = some (tak c) := by rw [cell_of_row _ _ _ _ _ _ h.row]; rfl
  have c4 : w.cell? ⟨d, 4, none⟩ = some (.int .i64 0) := by rw [cell_of_row _ _ _ _ _ _ h.row]; rfl
  have i1 := takeSize_any 0 w.drew h.tk.drew
  rw [tak] at c0
  have mm := m_taking_size ⟨c, 0, none⟩
  have HQ := hid h
  have HB := hid hB
  clear h hB
  go_enter Tryz.func106, Tryz.ntmps106
  go_region_held3 (fun w' => w'.cell? ⟨d, 0, none⟩ = some (.iface 127 (.pointer (some ⟨c, 0, none⟩))) ∧ w'.cell? ⟨d, 4, none⟩ = some (.int .i64 0)) (first | exact ⟨c0, c4⟩ | exact S2 | exact S3) (first | (go_at_call 179; (with_reducible refine i1.mono ?_); rintro e w2 ⟨rfl, ht, hk⟩; have hk := Keep.drew' hk; have hrow := HQ.out.row2 hk; have g0 : w2.frozen? ⟨d, 11, none⟩ = false := frozen_of_row _ _ _ _ _ hrow; have e0 : w2.cell? ⟨d, 11, none⟩ = some (.int .i64 p.1.1.size) := (by rw [cell_of_row _ _ _ _ _ _ hrow]; rfl); have S2 : w2.cell? ⟨d, 0, none⟩ = some (tak c) ∧ w2.cell? ⟨d, 4, none⟩ = some (.int .i64 0) := ⟨by rw [cell_of_row _ _ _ _ _ _ hrow]; rfl, by rw [cell_of_row _ _ _ _ _ _ hrow]; rfl⟩; have hrow3 := row_set 11 (.int .i64 ((tSize p.2).1 : Int)) hrow rfl; have S3 : (w2.setCell ⟨d, 11, none⟩ (.int .i64 ((tSize p.2).1 : Int))).cell? ⟨d, 0, none⟩ = some (tak c) ∧ (w2.setCell ⟨d, 11, none⟩ (.int .i64 ((tSize p.2).1 : Int))).cell? ⟨d, 4, none⟩ = some (.int .i64 0) := ⟨by rw [cell_of_row _ _ _ _ _ _ hrow3]; rfl, by rw [cell_of_row _ _ _ _ _ _ hrow3]; rfl⟩; rw [tak] at S2 S3; have HK := hid hk; have HT := hid ht; clear hk ht hrow hrow3))
  go_end0
  exact ⟨rfl, HQ.out.put HK.out (tFq da .size p) HT.out 11 _ _ _ _ rfl (HQ.out.o1 HK.out) (HQ.out.o2 HK.out) (HQ.out.o3 HK.out) HQ.out.sn (HQ.out.o4 HK.out)⟩
set_option maxRecDepth 100000 in
set_option maxHeartbeats 2000000 in
theorem r_indices {w : World} {B b c d : Nat} {p : PT} {tl te ta : Value} (h : Ra w B b c d p tl te ta) (hB : B ≤ w.heap.size) (da : TS → List Ask × TS) :
    Calls Tryz.prog 108 #[.pointer (some ⟨d, 0, none⟩)] w fun e w' => e = .returned (.tuple #[]) ∧ RPost w B b c d (tFq da .indices p) w' := by
  have c0 : w.cell? ⟨d, 0, none⟩ = some (tak c) := by rw [cell_of_row _ _ _ _ _ _ h.row]; rfl
  have c4 : w.cell? ⟨d, 5, none⟩ = some (.slice none 0 0) := by rw [cell_of_row _ _ _ _ _ _ h.row]; rfl
  have i1 := takeSizes_any (.slice none 0 0) 256 w.drew h.tk.drew
  rw [tak] at c0
  have mm := m_taking_sizes ⟨c, 0, none⟩
  have HQ := hid h
  have HB := hid hB
  clear h hB
  go_enter Tryz.func108, Tryz.ntmps108
  go_region_held3 (fun w' => w'.cell? ⟨d, 0, none⟩ = some (.iface 127 (.pointer (some ⟨c, 0, none⟩))) ∧ w'.cell? ⟨d, 5, none⟩ = some (.slice none 0 0)) (first | exact ⟨c0, c4⟩ | exact S2 | exact S3) (first | (go_at_call 180; (with_reducible refine i1.mono ?_); rintro e w2 ⟨v, rfl, ⟨hq, ho⟩, hn, ht, hk⟩; obtain ⟨p1, q1, rfl, _⟩ := id hq; have HO := hid ho; clear ho; have HN := hid (hn.mono HB.out (Nat.le_refl _)); have HV := hid hq; clear hq hn; have hk := Keep.drew' hk; have hrow := HQ.out.row2 hk; have g0 : w2.frozen? ⟨d, 12, none⟩ = false := frozen_of_row _ _ _ _ _ hrow; have e0 : w2.cell? ⟨d, 12, none⟩ = some (tl) := (by rw [cell_of_row _ _ _ _ _ _ hrow]; rfl); have S2 : w2.cell? ⟨d, 0, none⟩ = some (tak c) ∧ w2.cell? ⟨d, 5, none⟩ = some (.slice none 0 0) := ⟨by rw [cell_of_row _ _ _ _ _ _ hrow]; rfl, by rw [cell_of_row _ _ _ _ _ _ hrow]; rfl⟩; have hrow3 := row_set 12 (.slice p1 (ints (tSizes 256 p.2).1).length q1) hrow rfl; have S3 : (w2.setCell ⟨d, 12, none⟩ (.slice p1 (ints (tSizes 256 p.2).1).length q1)).cell? ⟨d, 0, none⟩ = some (tak c) ∧ (w2.setCell ⟨d, 12, none⟩ (.slice p1 (ints (tSizes 256 p.2).1).length q1)).cell? ⟨d, 5, none⟩ = some (.slice none 0 0) := ⟨by rw [cell_of_row _ _ _ _ _ _ hrow3]; rfl, by rw [cell_of_row _ _ _ _ _ _ hrow3]; rfl⟩; rw [tak] at S2 S3; have HK := hid hk; have HT := hid ht; clear hk ht hrow hrow3))
  go_end0
  exact ⟨rfl, HQ.out.put HK.out (tFq da .indices p) HT.out 12 _ _ _ _ rfl ⟨HV.out, HN.out⟩ (HQ.out.o2 HK.out) (HQ.out.o3 HK.out) HQ.out.sn (HQ.out.ow.setL HK.out (fun _ k1 _ => Ra.nS HQ.out.hb HQ.out.hc k1) HB.out HO.out rfl rfl rfl)⟩
set_option maxRecDepth 100000 in
set_option maxHeartbeats 2000000 in
theorem r_heads {w : World} {B b c d : Nat} {p : PT} {tl te ta : Value} (h : Ra w B b c d p tl te ta) (hB : B ≤ w.heap.size) (da : TS → List Ask × TS) :
    Calls Tryz.prog 109 #[.pointer (some ⟨d, 0, none⟩)] w fun e w' => e = .returned (.tuple #[]) ∧ RPost w B b c d (tFq da .heads p) w' := by
  have c0 : w.cell? ⟨d, 0, none⟩ = some (tak c) := by rw [cell_of_row _ _ _ _ _ _ h.row]; rfl
  have c4 : w.cell? ⟨d, 5, none⟩ = some (.slice none 0 0) := by rw [cell_of_row _ _ _ _ _ _ h.row]; rfl
  have i1 := takeSizes_any (.slice none 0 0) 64 w.drew h.tk.drew
  rw [tak] at c0
  have mm := m_taking_sizes ⟨c, 0, none⟩
  have HQ := hid h
  have HB := hid hB
  clear h hB
  go_enter Tryz.func109, Tryz.ntmps109
  go_region_held3 (fun w' => w'.cell? ⟨d, 0, none⟩ = some (.iface 127 (.pointer (some ⟨c, 0, none⟩))) ∧ w'.cell? ⟨d, 5, none⟩ = some (.slice none 0 0)) (first | exact ⟨c0, c4⟩ | exact S2 | exact S3) (first | (go_at_call 180; (with_reducible refine i1.mono ?_); rintro e w2 ⟨v, rfl, ⟨hq, ho⟩, hn, ht, hk⟩; obtain ⟨p1, q1, rfl, _⟩ := id hq; have HO := hid ho; clear ho; have HN := hid (hn.mono HB.out (Nat.le_refl _)); have HV := hid hq; clear hq hn; have hk := Keep.drew' hk; have hrow := HQ.out.row2 hk; have g0 : w2.frozen? ⟨d, 12, none⟩ = false := frozen_of_row _ _ _ _ _ hrow; have e0 : w2.cell? ⟨d, 12, none⟩ = some (tl) := (by rw [cell_of_row _ _ _ _ _ _ hrow]; rfl); have S2 : w2.cell? ⟨d, 0, none⟩ = some (tak c) ∧ w2.cell? ⟨d, 5, none⟩ = some (.slice none 0 0) := ⟨by rw [cell_of_row _ _ _ _ _ _ hrow]; rfl, by rw [cell_of_row _ _ _ _ _ _ hrow]; rfl⟩; have hrow3 := row_set 12 (.slice p1 (ints (tSizes 64 p.2).1).length q1) hrow rfl; have S3 : (w2.setCell ⟨d, 12, none⟩ (.slice p1 (ints (tSizes 64 p.2).1).length q1)).cell? ⟨d, 0, none⟩ = some (tak c) ∧ (w2.setCell ⟨d, 12, none⟩ (.slice p1 (ints (tSizes 64 p.2).1).length q1)).cell? ⟨d, 5, none⟩ = some (.slice none 0 0) := ⟨by rw [cell_of_row _ _ _ _ _ _ hrow3]; rfl, by rw [cell_of_row _ _ _ _ _ _ hrow3]; rfl⟩; rw [tak] at S2 S3; have HK := hid hk; have HT := hid ht; clear hk ht hrow hrow3))
  go_end0
  exact ⟨rfl, HQ.out.put HK.out (tFq da .heads p) HT.out 12 _ _ _ _ rfl ⟨HV.out, HN.out⟩ (HQ.out.o2 HK.out) (HQ.out.o3 HK.out) HQ.out.sn (HQ.out.ow.setL HK.out (fun _ k1 _ => Ra.nS HQ.out.hb HQ.out.hc k1) HB.out HO.out rfl rfl rfl)⟩
set_option maxRecDepth 100000 in
set_option maxHeartbeats 2000000 in
theorem r_entries {w : World} {B b c d : Nat} {p : PT} {tl te ta : Value} (h : Ra w B b c d p tl te ta) (hB : B ≤ w.heap.size) (da : TS → List Ask × TS) :
    Calls Tryz.prog 105 #[.pointer (some ⟨d, 0, none⟩)] w fun e w' => e = .returned (.tuple #[]) ∧ RPost w B b c d (tFq da .entries p) w' := by
  have c0 : w.cell? ⟨d, 0, none⟩ = some (tak c) := by rw [cell_of_row _ _ _ _ _ _ h.row]; rfl
  have c4 : w.cell? ⟨d, 6, none⟩ = some (.slice none 0 0) := by rw [cell_of_row _ _ _ _ _ _ h.row]; rfl
  have i1 := takeTexts_any (.slice none 0 0) 1 32 4096 w.drew h.tk.drew
  rw [tak] at c0
  have mm := m_taking_texts ⟨c, 0, none⟩
  have HQ := hid h
  have HB := hid hB
  clear h hB
  go_enter Tryz.func105, Tryz.ntmps105
  go_region_held3 (fun w' => w'.cell? ⟨d, 0, none⟩ = some (.iface 127 (.pointer (some ⟨c, 0, none⟩))) ∧ w'.cell? ⟨d, 6, none⟩ = some (.slice none 0 0)) (first | exact ⟨c0, c4⟩ | exact S2 | exact S3) (first | (go_at_call 181; (with_reducible refine i1.mono ?_); rintro e w2 ⟨v, rfl, ⟨hq, ho⟩, hn, ht, hk⟩; obtain ⟨p1, q1, rfl, _⟩ := id hq; have HO := hid ho; clear ho; have HN := hid (hn.mono HB.out (Nat.le_refl _)); have HV := hid hq; clear hq hn; have hk := Keep.drew' hk; have hrow := HQ.out.row2 hk; have g0 : w2.frozen? ⟨d, 13, none⟩ = false := frozen_of_row _ _ _ _ _ hrow; have e0 : w2.cell? ⟨d, 13, none⟩ = some (te) := (by rw [cell_of_row _ _ _ _ _ _ hrow]; rfl); have S2 : w2.cell? ⟨d, 0, none⟩ = some (tak c) ∧ w2.cell? ⟨d, 6, none⟩ = some (.slice none 0 0) := ⟨by rw [cell_of_row _ _ _ _ _ _ hrow]; rfl, by rw [cell_of_row _ _ _ _ _ _ hrow]; rfl⟩; have hrow3 := row_set 13 (.slice p1 (tTexts 1 32 4096 p.2).1.length q1) hrow rfl; have S3 : (w2.setCell ⟨d, 13, none⟩ (.slice p1 (tTexts 1 32 4096 p.2).1.length q1)).cell? ⟨d, 0, none⟩ = some (tak c) ∧ (w2.setCell ⟨d, 13, none⟩ (.slice p1 (tTexts 1 32 4096 p.2).1.length q1)).cell? ⟨d, 6, none⟩ = some (.slice none 0 0) := ⟨by rw [cell_of_row _ _ _ _ _ _ hrow3]; rfl, by rw [cell_of_row _ _ _ _ _ _ hrow3]; rfl⟩; rw [tak] at S2 S3; have HK := hid hk; have HT := hid ht; clear hk ht hrow hrow3))
  go_end0
  exact ⟨rfl, HQ.out.put HK.out (tFq da .entries p) HT.out 13 _ _ _ _ rfl (HQ.out.o1 HK.out) ⟨HV.out, HN.out⟩ (HQ.out.o3 HK.out) HQ.out.sn (HQ.out.ow.setE HK.out (fun _ k1 _ => Ra.nS HQ.out.hb HQ.out.hc k1) HB.out HO.out rfl rfl rfl)⟩
end Msg
end Go.Proofs.YtmhgdcfmfcjagaaGreatDoor
