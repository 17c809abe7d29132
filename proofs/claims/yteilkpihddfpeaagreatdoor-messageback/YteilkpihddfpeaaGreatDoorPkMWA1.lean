import Derived.Test.YteilkpihddfpeaaGreatDoorPkMWF
import Derived.Test.YteilkpihddfpeaaGreatDoorPkMV7
import Derived.Deep.Slices
namespace Go.Proofs.YteilkpihddfpeaaGreatDoor
open Go.RowKit Cod
namespace Msg

/-- the j-th element behind y reads as the request x -/
def Elr (w : World) (hi : Nat) (y : Addr) (j : Nat) (x : Ask) : Prop :=
  ∃ ul ue ua, w.cell? (y.add (j * 7)) = some (.int .i64 x.kind) ∧ w.cell? (y.add (j * 7 + 1)) = some (.int .i64 x.a) ∧ w.cell? (y.add (j * 7 + 2)) = some (.int .i64 x.b) ∧ w.cell? (y.add (j * 7 + 3)) = some (.int .i64 x.size) ∧
    w.cell? (y.add (j * 7 + 4)) = some ul ∧ w.cell? (y.add (j * 7 + 5)) = some ue ∧ w.cell? (y.add (j * 7 + 6)) = some ua ∧ Lw hi ul ∧ Lw hi ue ∧ SlcI w ul x.list ∧ Slc w ue x.ent ∧ ∃ p q, ua = .slice p x.n q
/-- a list of requests, wherever it lies -/
def Aq (w : World) (hi : Nat) (u : Value) (l : List Ask) : Prop :=
  ∃ (a : Option Addr) (cap : Nat), u = .slice a l.length cap ∧ ∀ j x, l[j]? = some x → ∃ y : Addr, a = some y ∧ y.block < hi ∧ Elr w hi y j x
theorem Lw.monoA {hi hi' : Nat} {u : Value} (h : Lw hi u) (hb : hi ≤ hi') : Lw hi' u := fun x n c e h0 => Nat.lt_of_lt_of_le (h x n c e h0) hb
theorem Elr.bl {w w' : World} {hi j : Nat} {y : Addr} {x : Ask} (h : Elr w hi y j x) (hy : y.block < hi) (hb : Below hi w w') : Elr w' hi y j x := by
  obtain ⟨ul, ue, ua, c0, c1, c2, c3, c4, c5, c6, n1, n2, s1, s2, s3⟩ := h
  have key : ∀ (o : Nat) z, w.cell? (y.add o) = some z → w'.cell? (y.add o) = some z := fun o z e => (hb.cell (p := y.add o) (by rw [add_block]; exact hy)).trans e
  exact ⟨ul, ue, ua, key _ _ c0, key _ _ c1, key _ _ c2, key _ _ c3, key _ _ c4, key _ _ c5, key _ _ c6, n1, n2, n1.slcI s1 hb, n2.slc s2 hb, s3⟩
theorem Aq.bl {w w' : World} {hi : Nat} {u : Value} {l : List Ask} (h : Aq w hi u l) (hb : Below hi w w') : Aq w' hi u l := by
  obtain ⟨a, cap, rfl, h⟩ := h
  refine ⟨a, cap, rfl, fun j x hx => ?_⟩
  obtain ⟨y, e, hy, he⟩ := h j x hx
  exact ⟨y, e, hy, he.bl hy hb⟩
theorem Aq.mono {w : World} {hi hi' : Nat} {u : Value} {l : List Ask} (h : Aq w hi u l) (hb : hi ≤ hi') : Aq w hi' u l := by
  obtain ⟨a, cap, rfl, h⟩ := h
  refine ⟨a, cap, rfl, fun j x hx => ?_⟩
  obtain ⟨y, e, hy, ul, ue, ua, c0, c1, c2, c3, c4, c5, c6, n1, n2, s⟩ := h j x hx
  exact ⟨y, e, by omega, ul, ue, ua, c0, c1, c2, c3, c4, c5, c6, n1.monoA hb, n2.monoA hb, s⟩
theorem Aq.shape {w : World} {hi : Nat} {u : Value} {l : List Ask} (h : Aq w hi u l) : ∃ p q, u = .slice p l.length q := by
  obtain ⟨a, cap, e, _⟩ := h
  exact ⟨a, cap, e⟩
theorem sm_askA {x : Ask} (hf : Fit x) {s : LS} {m : Nat} (hs : Sm s m) : Sm (lAsk x s) (m + 343597383680) := by
  show Sm (lReq x id 3 7 s) _
  rw [lReq]
  split
  · rename_i hw
    have h1 : Sm (lMark x.kind 3 7 s) (m + 1) := hs.lif _ _ _
    have := sm_fq hf (K := 68719476736) (da := id) (fs := flds x.kind.toNat) (Nat.le_refl _) (fun e => absurd rfl (no_asks hw _ e)) (flds x.kind.toNat).length _ _ h1 (Nat.le_refl _)
    rw [List.take_length] at this
    have h3 := flds_len x.kind.toNat
    have key := this.mono (k := m + 343597383680) (by have : (flds x.kind.toNat).length * 68719476736 ≤ 3 * 68719476736 := Nat.mul_le_mul_right _ h3; omega)
    exact fun bs e => key bs e
  · exact fun bs e => (hs.mono (by omega)) bs e
theorem sm_asksA : ∀ (l : List Ask) {s : LS} {m : Nat}, (∀ x ∈ l, Fit x) → Sm s m → Sm (l.foldl (fun s x => lAsk x s) s) (m + l.length * 343597383680)
  | [], s, m, _, hs => by simpa using hs
  | x :: l, s, m, h, hs => by
    have := sm_asksA l (s := lAsk x s) (m := m + 343597383680) (fun y hy => h y (by simp [hy])) (sm_askA (h x (by simp)) hs)
    rw [List.foldl_cons, List.length_cons]
    exact this.mono (by rw [Nat.add_mul]; omega)
set_option maxRecDepth 100000 in
set_option maxHeartbeats 4000000 in
theorem layAsks_no {w : World} {base b c : Nat} {v : Value} {s : LS} {p : Option Addr} {q n : Nat} (h : Ly w base b c v s) (hl : wi (n : Int) 1 64 = false) :
    Calls Tryz.prog 86 #[.pointer (some ⟨c, 0, none⟩), .slice p n q] w fun e w' => e = .returned (.slice p n q) ∧ Lo w base b c v (s.1, true) w' := by
  have i1 := within_any (n : Int) 1 64 w
  have i2 := takes_any false w h
  rw [hl] at i1
  clear h
  go_enter Tryz.func86, Tryz.ntmps86
  go_wp2_with (first
    | (go_at_call 15; refine i1.mono ?_; rintro e w' ⟨rfl, hw'⟩; rw [hw']; clear hw' w')
    | (go_at_call 31; refine i2.mono ?_; rintro e w1 ⟨rfl, h1, h2⟩; have H1 := hid (Lo.no h2 h1); clear h1 h2))
  go_ret
  exact ⟨rfl, H1.out⟩
set_option maxRecDepth 100000 in
set_option maxHeartbeats 4000000 in
theorem layAsks_ok {w : World} {base b c : Nat} {v : Value} {s : LS} {u : Value} {l : List Ask} (h : Ly w base b c v s) (hu : Aq w base u l) (hl : wi (l.length : Int) 1 64 = true) (hg : ∀ x ∈ l, Fit x) (hm : Sm s 29000000000000) :
    Calls Tryz.prog 86 #[.pointer (some ⟨c, 0, none⟩), u] w fun e w' => e = .returned u ∧ Lo w base b c v (lAsks l s) w' := by
  have i1 := within_any (l.length : Int) 1 64 w
  have i2 := takes_any true w h
  rw [hl] at i1
  have hlen := wi_iff.1 hl
  rw [lAsks, if_pos hl, lNum, lif_yes rfl]
  have HA := hid hu
  obtain ⟨pa, cap, rfl, g4⟩ := hu
  have h9 : (digs (l.length : Int).toNat).length ≤ 9 := digs_len9 (by omega)
  have HM := hid hm
  have HG := hid hg
  have HY := hid h
  have H9 := hid h9
  have hb1 : -9223372036854775808 ≤ (l.length : Int) := by omega
  have hb2 : (l.length : Int) ≤ 9223372036854775807 := by omega
  obtain ⟨s1, hs1⟩ : ∃ s1, Hid ((s.1.put (numErr (l.length : Int)) (digs (l.length : Int).toNat), s.2) = s1) := ⟨_, rfl⟩
  rw [hs1.out]
  clear h hm hg hl g4 h9
  go_enter Tryz.func86, Tryz.ntmps86
  go_wp2_with (first
    | (go_at_call 15; refine i1.mono ?_; rintro e w' ⟨rfl, hw'⟩; rw [hw']; clear hw' w')
    | (go_at_call 31; refine i2.mono ?_; rintro e w1 ⟨rfl, h1, h2⟩; have h1 := h1.yes; have d0 := h1.c0; have i3 := wNum_any base b v s.1 (l.length : Int) hb1 hb2 w1 h1.wri h1.base (fun bs e => by have := HM.out bs e; omega); have H1 := hid h1; have H2 := hid h2; clear h1 h2)
    | (go_at_call 94; refine i3.mono ?_; intro e w2 p; obtain ⟨hr, hlo⟩ := Lo.mk' H2.out H1.out p; subst hr; rw [hs1.out] at hlo; have HL := hid hlo; clear hlo p))
  have HS : Hid (Sm s1 29000000000009) := by
    have := HM.out.lif true (numErr (l.length : Int)) (digs (l.length : Int).toNat)
    rw [lif_yes rfl, hs1.out] at this
    exact this.mono (by have := H9.out; omega)
  clear i1 i2 i3 d0
  go_loopw [21] (fun i w' => ∃ k : Nat, k ≤ l.length ∧ i = .int .i64 k ∧ Hid (Lo w base b c v ((l.take k).foldl (fun s x => lAsk x s) s1) w')) (fun i _ => l.length - (intOf i).toNat)
  case atStart => exact ⟨0, by omega, rfl, HL⟩
  case round =>
    obtain ⟨k, hk, rfl, hL⟩ := hrel
    by_cases hlt : k < l.length
    · have hlt' : (k : Int) < (l.length : Int) := by omega
      obtain ⟨v', y1, y2, y3⟩ := hL.out
      have bl : Below base w wr := Lo.bl HY.out y2
      obtain ⟨pa', cap', he, a4⟩ := HA.out.bl bl
      injection he with he1 he2 he3
      obtain ⟨y, e1, hy, ul, ue, ua, c0, c1, c2, c3, c4, c5, c6, n1, n2, r1, r2, r3⟩ := a4 k l[k] (List.getElem?_eq_getElem hlt)
      rw [← he1] at e1
      subst e1
      clear he1 he2 he3
      rw [← Go.Deep.add_add] at c1 c2 c3 c4 c5 c6
      replace c1 : wr.cell? ⟨(y.add (k * 7)).block, (y.add (k * 7)).off + 1, none⟩ = _ := c1
      replace c2 : wr.cell? ⟨(y.add (k * 7)).block, (y.add (k * 7)).off + 2, none⟩ = _ := c2
      replace c3 : wr.cell? ⟨(y.add (k * 7)).block, (y.add (k * 7)).off + 3, none⟩ = _ := c3
      replace c4 : wr.cell? ⟨(y.add (k * 7)).block, (y.add (k * 7)).off + 4, none⟩ = _ := c4
      replace c5 : wr.cell? ⟨(y.add (k * 7)).block, (y.add (k * 7)).off + 5, none⟩ = _ := c5
      replace c6 : wr.cell? ⟨(y.add (k * 7)).block, (y.add (k * 7)).off + 6, none⟩ = _ := c6
      have G := HG.out l[k] (List.getElem_mem hlt)
      have hS0 := sm_asksA (l.take k) (fun x hx => HG.out x (List.mem_of_mem_take hx)) HS.out
      have hS := hS0.mono (k := 58000000000000) (by rw [List.length_take, Nat.min_eq_left hk]; omega)
      have hsn := asks_snoc l k hlt s1
      obtain ⟨p1, q1, rfl, _⟩ := id r1
      obtain ⟨p2, q2, rfl, _⟩ := id r2
      obtain ⟨p3, q3, rfl⟩ := id r3
      generalize l[k] = x at *
      have bA := (Below.refl wr.heap.size wr).alloc (Nat.le_refl _) (.cells #[.int .i64 x.kind, .int .i64 x.a, .int .i64 x.b, .int .i64 x.size, .slice p1 x.list.length q1, .slice p2 x.ent.length q2, .slice p3 x.n q3] 40)
      have i4 := reqL_any (y1.below bA) ⟨n1, n2, n1.slcI r1 (bA.mono y1.base), n2.slc r2 (bA.mono y1.base), ⟨p3, q3, rfl⟩⟩ G hS (Nat.le_refl _) (K0 := 68719476736) (Nat.le_refl _) (M := 140600000000000) (by have := flds_len x.kind.toNat; have : ((flds x.kind.toNat).length - 1) * 68719476736 ≤ 2 * 68719476736 := Nat.mul_le_mul_right _ (by omega); omega) 3 7 (by omega) (by omega) id (fun hwk d g hg => fc_six (Nat.le_refl _) G g (no_asks hwk g hg)) (fun _ s m hs => hs.mono (by omega))
      rw [akV] at i4
      have N : Hid (∀ w5, Lo (wr.alloc (.cells #[.int .i64 x.kind, .int .i64 x.a, .int .i64 x.b, .int .i64 x.size, .slice p1 x.list.length q1, .slice p2 x.ent.length q2, .slice p3 x.n q3] 40)) base b c v' (lReq x id 3 7 ((l.take k).foldl (fun s x => lAsk x s) s1)) w5 → Lo w base b c v ((l.take (k + 1)).foldl (fun s x => lAsk x s) s1) w5) := fun w5 p => by
        rw [hsn]
        exact Lo.step (y2.trans (T := fun _ => False) (Keep.ofBelow bA) (fun _ _ e => e.elim)) y3 p
      clear y1 y2 y3 bl a4 r1 r2 hS hS0 hsn bA G
      go_wp2_with (go_at_call 24; refine i4.mono ?_; rintro e w5 ⟨rfl, p⟩; have N1 := hid (N.out _ p); clear p)
      exact ⟨⟨k + 1, by omega, by go_num, N1⟩, by simp [intOf]; omega⟩
    · obtain rfl : k = l.length := by omega
      have hL2 := hL.out
      rw [List.take_length] at hL2
      have HL2 := hid hL2
      clear hL2
      go_wp2
      go_ret
      exact ⟨rfl, HL2.out⟩
theorem layAsks_any {w : World} {base b c : Nat} {v : Value} {s : LS} {u : Value} {l : List Ask} (h : Ly w base b c v s) (hu : Aq w base u l) (hg : ∀ x ∈ l, Fit x) (hm : Sm s 29000000000000) :
    Calls Tryz.prog 86 #[.pointer (some ⟨c, 0, none⟩), u] w fun e w' => e = .returned u ∧ Lo w base b c v (lAsks l s) w' := by
  cases hl : wi (l.length : Int) 1 64 with
  | true => exact layAsks_ok h hu hl hg hm
  | false =>
    obtain ⟨p, q, rfl⟩ := hu.shape
    rw [lAsks, if_neg (by rw [hl]; exact Bool.false_ne_true)]
    exact layAsks_no h hl
set_option maxRecDepth 100000 in
set_option maxHeartbeats 2000000 in
theorem f_asksA {w : World} {base b c d : Nat} {v : Value} {s : LS} {x : Ask} {ul ue ua : Value} {t : Ask} {tl te ta : Value} {l : List Ask} (h : Qa w base b c d v s x ul ue ua t tl te ta) (hu : Aq w base ua l) (hn : x.n = l.length) (hg : ∀ x ∈ l, Fit x) (hm : Sm s 29000000000000) :
    Calls Tryz.prog 62 #[.pointer (some ⟨d, 0, none⟩)] w fun e w' => e = .returned (.tuple #[]) ∧ FPost w base b c d v (lFq x (lAsks l) .asks s) x ul ue ua (setF x .asks t) w' := by
  have i1 := layAsks_any h.ly.drew (hu.bl (Below.refl base w).drew) hg hm
  obtain ⟨p1, q1, rfl⟩ := hu.shape
  have c0 : w.cell? ⟨d, 0, none⟩ = some (lay c) := by rw [cell_of_row _ _ _ _ _ _ h.row]; rfl
  have c4 : w.cell? ⟨d, 7, none⟩ = some (.slice p1 l.length q1) := by rw [cell_of_row _ _ _ _ _ _ h.row]; rfl
  rw [lay] at c0
  have mm := m_laying_asks ⟨c, 0, none⟩
  have HQ := hid h
  have HN := hid hn
  clear h hm hu hn hg
  go_enter Tryz.func62, Tryz.ntmps62
  go_region_held3 (fun w' => w'.cell? ⟨d, 0, none⟩ = some (.iface 72 (.pointer (some ⟨c, 0, none⟩))) ∧ w'.cell? ⟨d, 7, none⟩ = some (.slice p1 l.length q1)) (first | exact ⟨c0, c4⟩ | exact S2 | exact S3) (first | (go_at_call 86; (with_reducible refine i1.mono ?_); rintro e w2 ⟨rfl, hl⟩; have hl := hl.drew; have hrow := HQ.out.row2 hl; have g0 : w2.frozen? ⟨d, 14, none⟩ = false := frozen_of_row _ _ _ _ _ hrow; have e0 : w2.cell? ⟨d, 14, none⟩ = some ta := (by rw [cell_of_row _ _ _ _ _ _ hrow]; rfl); have S2 : w2.cell? ⟨d, 0, none⟩ = some (lay c) ∧ w2.cell? ⟨d, 7, none⟩ = some (.slice p1 l.length q1) := ⟨by rw [cell_of_row _ _ _ _ _ _ hrow]; rfl, by rw [cell_of_row _ _ _ _ _ _ hrow]; rfl⟩; have hrow3 := row_set 14 (.slice p1 l.length q1) hrow rfl; have S3 : (w2.setCell ⟨d, 14, none⟩ (.slice p1 l.length q1)).cell? ⟨d, 0, none⟩ = some (lay c) ∧ (w2.setCell ⟨d, 14, none⟩ (.slice p1 l.length q1)).cell? ⟨d, 7, none⟩ = some (.slice p1 l.length q1) := ⟨by rw [cell_of_row _ _ _ _ _ _ hrow3]; rfl, by rw [cell_of_row _ _ _ _ _ _ hrow3]; rfl⟩; rw [lay] at S2 S3; have HL := hid hl; clear hl hrow hrow3))
  go_end0
  exact ⟨rfl, HQ.out.put HL.out 14 _ _ _ _ _ rfl HQ.out.t1 HQ.out.t2 ⟨p1, q1, by rw [show (setF x .asks t).n = x.n from rfl, HN.out]⟩⟩
theorem asks12 {k : Int} (hk : wi k 1 12 = true) (e : .asks ∈ flds k.toNat) : k = 12 := by
  have hk := wi_iff.1 hk
  obtain ⟨n, hn⟩ := Int.eq_ofNat_of_zero_le (show 0 ≤ k by omega)
  rw [hn, Int.toNat_natCast] at e
  rw [hn] at hk ⊢
  have h1 : 1 ≤ n := by omega
  have h2 : n ≤ 12 := by omega
  match n, h1, h2 with
  | 1, _, _ => simp [flds] at e
  | 2, _, _ => simp [flds] at e
  | 3, _, _ => simp [flds] at e
  | 4, _, _ => simp [flds] at e
  | 5, _, _ => simp [flds] at e
  | 6, _, _ => simp [flds] at e
  | 7, _, _ => simp [flds] at e
  | 8, _, _ => simp [flds] at e
  | 9, _, _ => simp [flds] at e
  | 10, _, _ => simp [flds] at e
  | 11, _, _ => simp [flds] at e
  | 12, _, _ => rfl
/-- a request, laid down, whatever it is -/
theorem request_any {w : World} {base b c : Nat} {v : Value} {s : LS} {x : Ask} {ul ue ua : Value} {l : List Ask} (h : Ly w base b c v s) (hx : Ak w base x ul ue ua) (hf : Fit x) (hm : Sm s 1000000000000) (hu : Aq w base ua l) (hn : x.n = l.length) (hg : ∀ x ∈ l, Fit x) :
    Calls Tryz.prog 24 #[.pointer (some ⟨c, 0, none⟩), akV x ul ue ua, .int .i64 1, .int .i64 12] w fun e w' => e = .returned (.tuple #[]) ∧ Lo w base b c v (lRequest x l s) w' := by
  have hd : ∀ s m, Sm s m → Sm (lAsks l s) (m + 27487790694400) := fun s m hs => by
    rw [lAsks]
    split
    · rename_i h3
      have hle := (wi_iff.1 h3).2
      have h9 : (digs (l.length : Int).toNat).length ≤ 9 := digs_len9 (by omega)
      have h5 : Sm (lNum (l.length : Int) s) (m + 9) := (hs.lif _ _ _).mono (by omega)
      have := sm_asksA l hg h5
      exact this.mono (by have : l.length ≤ 64 := (by omega); have := Nat.mul_le_mul_right 343597383680 this; omega)
    · exact fun bs e => (hs.mono (by omega)) bs e
  by_cases h0 : x.kind = 12
  · have hfl : flds x.kind.toNat = [.asks] := by rw [h0]; rfl
    refine reqL_any h hx hf hm (by omega) (K0 := 27487790694400) (by omega) (M := 29000000000000) (by rw [hfl]; decide) 1 12 (by omega) (by omega) (lAsks l) (fun _ d g hgm => ?_) (fun _ => hd)
    rw [hfl, List.mem_singleton] at hgm
    subst hgm
    intro w' v' s' t tl te ta hb hQ hS
    exact f_asksA hQ (hu.bl hb) hn hg hS
  · by_cases hw : wi x.kind 1 12 = true
    · exact reqL_any h hx hf hm (by omega) (K0 := 68719476736) (by omega) (M := 29000000000000) (by have := flds_len x.kind.toNat; have : ((flds x.kind.toNat).length - 1) * 68719476736 ≤ 2 * 68719476736 := Nat.mul_le_mul_right _ (by omega); omega) 1 12 (by omega) (by omega) (lAsks l) (fun _ d g hgm => fc_six (by omega) hf g (fun e => h0 (asks12 hw (e ▸ hgm)))) (fun e => absurd (asks12 hw e) h0)
    · exact reqL_any h hx hf hm (by omega) (K0 := 27487790694400) (by omega) (M := 58000000000000) (by have := flds_len x.kind.toNat; have : ((flds x.kind.toNat).length - 1) * 27487790694400 ≤ 2 * 27487790694400 := Nat.mul_le_mul_right _ (by omega); omega) 1 12 (by omega) (by omega) (lAsks l) (fun e => absurd e hw) (fun _ => hd)
end Msg
end Go.Proofs.YteilkpihddfpeaaGreatDoor

namespace Go.Proofs.YteilkpihddfpeaaGreatDoor
open Go.RowKit Cod
namespace Msg

theorem nz_fq (x : Ask) (db : LS → LS) (hd : NzL db) (g : Fq) : NzL (lFq x db g) := by
  cases g with
  | asks => exact hd
  | a => exact nz_lif _ _ _
  | b => exact nz_lif _ _ _
  | size => exact nz_lif _ _ _
  | indices => exact nz_lif _ _ _
  | heads => exact nz_lif _ _ _
  | entries => exact nz_lif _ _ _
theorem nz_flds (x : Ask) (db : LS → LS) (hd : NzL db) (fs : List Fq) : NzL (lFlds x db fs) := nz_fold (fun g s => lFq x db g s) (fun g => nz_fq x db hd g) fs
theorem nz_req (x : Ask) (db : LS → LS) (hd : NzL db) (lo hi : Int) : NzL (lReq x db lo hi) := fun s h f hf => by
  rw [lReq] at hf
  split at hf
  · exact nz_flds x db hd _ _ (nz_lif _ _ _ s h) f hf
  · exact h f hf
theorem nz_asks (l : List Ask) : NzL (lAsks l) := fun s h f hf => by
  rw [lAsks] at hf
  split at hf
  · exact nz_fold (fun x s => lAsk x s) (fun x => nz_req x id NzL.id 3 7) l _ (nz_lif _ _ _ s h) f hf
  · exact h f hf
theorem nz_request (x : Ask) (l : List Ask) : NzL (lRequest x l) := nz_req x (lAsks l) (nz_asks l) 1 12
/-- a request that may be handed to Encode, whatever it is -/
structure Ra0 (w : World) (x : Ask) (l : List Ask) (ul ue ua : Value) : Prop where
  ak : Ak w w.heap.size x ul ue ua
  ft : Fit x
  ls : Aq w w.heap.size ua l
  ln : x.n = l.length
  lf : ∀ x ∈ l, Fit x
set_option maxRecDepth 100000 in
set_option maxHeartbeats 2000000 in
theorem encode_in {w : World} {x : Ask} {l : List Ask} {ul ue ua : Value} (T : Lay w) (h : Ra0 w x l ul ue ua) (hw : wi x.kind 1 12 = true) :
    Calls Tryz.prog 10 #[akV x ul ue ua] w fun e w' => e = .returned (frO (lRequest x l (.ok [], false))) ∧ Below w.heap.size w w' := by
  obtain ⟨p1, q1, rfl, _⟩ := id h.ak.s1
  obtain ⟨p2, q2, rfl, _⟩ := id h.ak.s2
  obtain ⟨p3, q3, rfl⟩ := id h.ak.s3
  have hT := T.lt
  have H := hid h
  have HT := hid T
  have HN := hid (nz_request x l _ nz_nil)
  obtain ⟨s9, hs9⟩ : ∃ s9, Hid (lRequest x l (.ok [], false) = s9) := ⟨_, rfl⟩
  rw [hs9.out] at HN ⊢
  obtain ⟨z9, hz9⟩ : ∃ z9, Hid (frO s9 = z9) := ⟨_, rfl⟩
  rw [hz9.out]
  have hz9s : ∃ (t : Array UInt8) (n : Int), z9 = .tuple #[.string ⟨t⟩, .int .i64 n] := by
    rw [← hz9.out, frO]
    split
    · split <;> exact ⟨_, _, rfl⟩
    · exact ⟨_, _, rfl⟩
  obtain ⟨t9, n9, rfl⟩ := hz9s
  clear h T
  rw [akV]
  go_enter Tryz.func10, Tryz.ntmps10
  go_wp2_with (first
    | (go_at_call 15; refine (within_any _ _ _ _).mono ?_; rw [hw]; rintro e w' ⟨rfl, hw'⟩; rw [hw']; clear hw' w')
    | (go_at_call 16; fail))
  obtain ⟨w1, hw1⟩ : ∃ w1, Hid (w.alloc (.cells #[.int .i64 x.kind, .int .i64 x.a, .int .i64 x.b, .int .i64 x.size, .slice p1 x.list.length q1, .slice p2 x.ent.length q2, .slice p3 x.n q3] 40) = w1) := ⟨_, rfl⟩
  have b1 : Below w.heap.size w w1 := by rw [← hw1.out]; exact (Below.refl _ _).alloc (Nat.le_refl _) _
  have r1 : w1.heap[w.heap.size]? = some (.cells #[.int .i64 x.kind, .int .i64 x.a, .int .i64 x.b, .int .i64 x.size, .slice p1 x.list.length q1, .slice p2 x.ent.length q2, .slice p3 x.n q3] 40 (0, 0)) := by rw [← hw1.out]; exact heap_alloc_new _ _
  have z1 : w1.heap.size = w.heap.size + 1 := by rw [← hw1.out]; exact size_alloc _ _
  rw [hw1.out]
  go_at_call 16
  refine (newWriter_any w1).mono ?_
  rintro e w2 ⟨rfl, n1, n2, n3⟩
  obtain ⟨w3, hw3⟩ : ∃ w3, Hid (w2.alloc (.cells #[.pointer (some ⟨w1.heap.size, 0, none⟩), .bool false] 52) = w3) := ⟨_, rfl⟩
  have b3 : Below w2.heap.size w2 w3 := by rw [← hw3.out]; exact (Below.refl _ _).alloc (Nat.le_refl _) _
  have hr3 : w3.heap[w2.heap.size]? = some (.cells #[.pointer (some ⟨w1.heap.size, 0, none⟩), .bool false] 52 (0, 0)) := by rw [← hw3.out]; exact heap_alloc_new _ _
  have bb : Below w.heap.size w w3 := b1.trans ((n2.mono (by omega)).trans (b3.mono (by have := n2.size; omega)))
  have hY : Ly w3 w1.heap.size w1.heap.size w2.heap.size (.slice none 0 0) (.ok [], false) := ⟨hr3, n1.below b3, by omega, fun e => (by cases e), n2.size⟩
  have r3 : w2.heap[w.heap.size]? = some (.cells #[.int .i64 x.kind, .int .i64 x.a, .int .i64 x.b, .int .i64 x.size, .slice p1 x.list.length q1, .slice p2 x.ent.length q2, .slice p3 x.n q3] 40 (0, 0)) := (n2.block _ (by omega)).trans r1
  have c0 : w2.cell? ⟨w.heap.size, 0, none⟩ = some (.int .i64 x.kind) := by rw [cell_of_row _ _ _ _ _ _ r3]; rfl
  have c1 : w2.cell? ⟨w.heap.size, 1, none⟩ = some (.int .i64 x.a) := by rw [cell_of_row _ _ _ _ _ _ r3]; rfl
  have c2 : w2.cell? ⟨w.heap.size, 2, none⟩ = some (.int .i64 x.b) := by rw [cell_of_row _ _ _ _ _ _ r3]; rfl
  have c3 : w2.cell? ⟨w.heap.size, 3, none⟩ = some (.int .i64 x.size) := by rw [cell_of_row _ _ _ _ _ _ r3]; rfl
  have c4 : w2.cell? ⟨w.heap.size, 4, none⟩ = some (.slice p1 x.list.length q1) := by rw [cell_of_row _ _ _ _ _ _ r3]; rfl
  have c5 : w2.cell? ⟨w.heap.size, 5, none⟩ = some (.slice p2 x.ent.length q2) := by rw [cell_of_row _ _ _ _ _ _ r3]; rfl
  have c6 : w2.cell? ⟨w.heap.size, 6, none⟩ = some (.slice p3 x.n q3) := by rw [cell_of_row _ _ _ _ _ _ r3]; rfl
  have hm0 : Sm (WSt.ok [], false) 1000000000000 := fun bs e => by injection e with e; subst e; simp
  have i1 := request_any (l := l) hY ((H.out.ak.bl bb).mono (by omega : w.heap.size ≤ w1.heap.size)) H.out.ft hm0 ((H.out.ls.bl bb).mono (by omega)) H.out.ln H.out.lf
  rw [hs9.out, akV] at i1
  have HY := hid hY
  have BB := hid bb
  have hz3 : w1.heap.size < w3.heap.size := by have := n2.size; have := b3.size; omega
  have HT3 : Hid (Lay w3) := HT.out.below bb hT
  have hT1 : 1 ≤ w1.heap.size := by omega
  have hle : w.heap.size ≤ w1.heap.size := by omega
  have hlt2 : w.heap.size < w2.heap.size := by have := n2.size; omega
  have hne2 : ¬ w.heap.size = w2.heap.size := by omega
  clear n1 n2 n3 b1 b3 r1 z1 r3 hr3 hY bb hm0
  rw [← hw3.out] at i1
  go_wp2_with (first
    | (go_at_call 24; refine i1.mono ?_; rintro e w5 ⟨rfl, hlo⟩; rw [hw3.out] at hlo; obtain ⟨v', y1, y2, y3⟩ := hlo; have bl5 := Lo.bl HY.out y2; have i2 := frameL_any y1 (HT3.out.below bl5 hT1) HN.out; rw [hz9.out] at i2; have B5 := hid (BB.out.trans (bl5.mono hle)); clear y1 y2 y3 bl5)
    | (go_at_call 18; refine i2.mono ?_; rintro e w6 ⟨rfl, h6⟩; have B6 := hid (B5.out.trans (h6.mono B5.out.size)); clear h6))
  go_ret2
  exact ⟨rfl, B6.out⟩
set_option maxRecDepth 100000 in
set_option maxHeartbeats 2000000 in
theorem encode_kind {w : World} {x : Ask} {ul ue ua : Value} (hk : wi x.kind 1 12 = false) (h1 : ∃ p n q, ul = .slice p n q) (h2 : ∃ p n q, ue = .slice p n q) (h3 : ∃ p n q, ua = .slice p n q) :
    Calls Tryz.prog 10 #[akV x ul ue ua] w fun e w' => e = .returned (.tuple #[sv [], .int .i64 170]) ∧ Below w.heap.size w w' := by
  obtain ⟨p1, n1, q1, rfl⟩ := h1
  obtain ⟨p2, n2, q2, rfl⟩ := h2
  obtain ⟨p3, n3, q3, rfl⟩ := h3
  rw [akV]
  go_enter Tryz.func10, Tryz.ntmps10
  go_wp2_with (first
    | (go_at_call 15; refine (within_any _ _ _ _).mono ?_; rw [hk]; rintro e w' ⟨rfl, hw'⟩; rw [hw']; clear hw' w'))
  go_ret2
  exact ⟨rfl, (Below.refl _ _).alloc (Nat.le_refl _) _⟩
/-- what Encode answers -/
def encQ (x : Ask) (l : List Ask) : Value := if wi x.kind 1 12 = true then frO (lRequest x l (.ok [], false)) else .tuple #[sv [], .int .i64 170]
theorem encode_any {w : World} {x : Ask} {l : List Ask} {ul ue ua : Value} (T : Lay w) (h : Ra0 w x l ul ue ua) :
    Calls Tryz.prog 10 #[akV x ul ue ua] w fun e w' => e = .returned (encQ x l) ∧ Below w.heap.size w w' := by
  cases hk : wi x.kind 1 12 with
  | true =>
    rw [encQ, if_pos hk]
    exact encode_in T h hk
  | false =>
    rw [encQ, if_neg (by rw [hk]; exact Bool.false_ne_true)]
    obtain ⟨p1, q1, e1, _⟩ := h.ak.s1
    obtain ⟨p2, q2, e2, _⟩ := h.ak.s2
    obtain ⟨p3, q3, e3⟩ := h.ak.s3
    exact encode_kind hk ⟨_, _, _, e1⟩ ⟨_, _, _, e2⟩ ⟨_, _, _, e3⟩
/-- requests among the arguments, with what they ask -/
def Lq (w : World) (u : Value) (L : List (Ask × List Ask)) : Prop :=
  ∃ (a : Option Addr) (cap : Nat), u = .slice a L.length cap ∧ ∀ j q, L[j]? = some q → ∃ (y : Addr) (ul ue ua : Value), a = some y ∧ y.block < w.heap.size ∧
    w.cell? (y.add (j * 7)) = some (.int .i64 q.1.kind) ∧ w.cell? (y.add (j * 7 + 1)) = some (.int .i64 q.1.a) ∧ w.cell? (y.add (j * 7 + 2)) = some (.int .i64 q.1.b) ∧ w.cell? (y.add (j * 7 + 3)) = some (.int .i64 q.1.size) ∧
    w.cell? (y.add (j * 7 + 4)) = some ul ∧ w.cell? (y.add (j * 7 + 5)) = some ue ∧ w.cell? (y.add (j * 7 + 6)) = some ua ∧ Ra0 w q.1 q.2 ul ue ua ∧ q.2.length ≤ maxLen
end Msg
end Go.Proofs.YteilkpihddfpeaaGreatDoor
