import Derived.Test.YteilkpihddfpeaaGreatDoorPkMX1
import Derived.Test.YteilkpihddfpeaaGreatDoorPkG3
namespace Go.Proofs.YteilkpihddfpeaaGreatDoor
open Go.RowKit Cod
namespace Msg

/-- a laying lies in block c, its Writer in b -/
structure Ly (w : World) (base b c : Nat) (v : Value) (s : LS) : Prop where
  row : w.heap[c]? = some (.cells #[.pointer (some ⟨b, 0, none⟩), .bool s.2] 52 (0, 0))
  wri : Wri w base b v s.1
  ne : c ≠ b
  nv : v.ownBlock ≠ some c
  ge : base ≤ c
/-- its blocks -/
def LSet (b c : Nat) (v : Value) : Nat → Prop := fun k => k = c ∨ WS b v k
/-- what a call leaves of it -/
def Lo (w : World) (base b c : Nat) (v : Value) (s : LS) (w' : World) : Prop := ∃ v', Ly w' base b c v' s ∧ Keep (LSet b c v) w w' ∧ From w v v'
theorem Ly.lt {w : World} {base b c : Nat} {v : Value} {s : LS} (h : Ly w base b c v s) : c < w.heap.size := lt_of_heap h.row
theorem Ly.c0 {w : World} {base b c : Nat} {v : Value} {s : LS} (h : Ly w base b c v s) : w.cell? ⟨c, 0, none⟩ = some (.pointer (some ⟨b, 0, none⟩)) := by rw [cell_of_row _ _ _ _ _ _ h.row]; rfl
theorem Ly.c1 {w : World} {base b c : Nat} {v : Value} {s : LS} (h : Ly w base b c v s) : w.cell? ⟨c, 1, none⟩ = some (.bool s.2) := by rw [cell_of_row _ _ _ _ _ _ h.row]; rfl
theorem Ly.f1 {w : World} {base b c : Nat} {v : Value} {s : LS} (h : Ly w base b c v s) : w.frozen? ⟨c, 1, none⟩ = false := frozen_of_row _ _ _ _ _ h.row
theorem Lo.refl {w : World} {base b c : Nat} {v : Value} {s : LS} (h : Ly w base b c v s) : Lo w base b c v s w := ⟨v, h, Keep.refl _ _, From.refl _ _⟩
theorem Lo.step {w w1 w2 : World} {base b c : Nat} {v v1 : Value} {s : LS} (k : Keep (LSet b c v) w w1) (f : From w v v1) (h : Lo w1 base b c v1 s w2) : Lo w base b c v s w2 := by
  obtain ⟨v2, h1, h2, h3⟩ := h
  refine ⟨v2, h1, k.trans h2 fun j hj e => ?_, f.trans h3 k.size⟩
  rcases e with e | e | e
  · exact .inl e
  · exact .inr (.inl e)
  · rcases f j e with g | g
    · exact .inr (.inr g)
    · omega
/-- the lists that are handed in lie below -/
def Lw (base : Nat) (u : Value) : Prop := ∀ x n c, u = .slice (some x) n c → 0 < n → x.block < base
theorem Ly.below {w w' : World} {base b c : Nat} {v : Value} {s : LS} (h : Ly w base b c v s) (hb : Below w.heap.size w w') : Ly w' base b c v s :=
  ⟨(hb.block c h.lt).trans h.row, h.wri.below hb, h.ne, h.nv, h.ge⟩
theorem Ly.set {S : Nat → Prop} {w w' : World} {base b c : Nat} {v : Value} {s : LS} (h : Ly w base b c v s) (hb : Keep S w w') (hS : ∀ k, LSet b c v k → ¬ S k) : Ly w' base b c v s :=
  ⟨(hb.block c h.lt (hS c (.inl rfl))).trans h.row, h.wri.keep hb (fun k hk => hS k (.inr hk)), h.ne, h.nv, h.ge⟩
/-- its mark is set -/
theorem Ly.mark {w w' : World} {base b c : Nat} {v : Value} {s : LS} (h : Ly w base b c v s) (q : Bool) (hr : w'.heap[c]? = some (.cells #[.pointer (some ⟨b, 0, none⟩), .bool q] 52 (0, 0))) (hb : But c w w') : Ly w' base b c v (s.1, q) :=
  ⟨hr, h.wri.keep (S := fun k => k = c) (Keep.ofBut hb rfl) (fun k hk e => by
    rcases hk with hk | hk
    · exact h.ne (e ▸ hk)
    · exact h.nv (e ▸ hk)), h.ne, h.nv, h.ge⟩
/-- its Writer has written -/
theorem Ly.wrote {w w' : World} {base b c : Nat} {v : Value} {s : LS} {st : WSt} {r : Ending} (h : Ly w base b c v s) (hp : WPost w base b v st r w') : r = .returned (.tuple #[]) ∧ Lo w base b c v (st, s.2) w' := by
  obtain ⟨hr, v', h1, h2, h3⟩ := hp
  have hl := h.lt
  refine ⟨hr, v', ⟨(h2.block c h.lt fun e => ?_).trans h.row, h1, h.ne, fun e => ?_, h.ge⟩, h2.mono fun _ _ e => .inr e, h3⟩
  · rcases e with e | e
    · exact h.ne e
    · exact h.nv e
  · rcases h3 c e with g | g
    · exact h.nv g
    · omega
theorem Ly.ge' {w : World} {base b c : Nat} {v : Value} {s : LS} (h : Ly w base b c v s) : ∀ k, LSet b c v k → base ≤ k ∧ k < w.heap.size := fun k hk => by
  rcases hk with rfl | hk
  · exact ⟨h.ge, h.lt⟩
  · exact h.wri.in k hk
theorem Ly.base {w : World} {base b c : Nat} {v : Value} {s : LS} (h : Ly w base b c v s) : base ≤ w.heap.size := Nat.le_of_lt (Nat.lt_of_le_of_lt h.ge h.lt)
theorem Lo.bl {w w' : World} {base b c : Nat} {v : Value} {s : LS} (h : Ly w base b c v s) (k : Keep (LSet b c v) w w') : Below base w w' :=
  k.below h.base fun j hj e => by have := (h.ge' j e).1; omega
theorem Lw.apart {w : World} {base b c : Nat} {v u : Value} {s : LS} (h : Lw base u) (hy : Ly w base b c v s) : Apart u (WS b v) := fun x n q e h0 hk => by
  have := h x n q e h0
  have := (hy.wri.in _ hk).1
  omega
theorem Lw.slc {w w' : World} {base : Nat} {u : Value} {ps : List (List UInt8)} (h : Lw base u) (hs : Slc w u ps) (hb : Below base w w') : Slc w' u ps :=
  hs.keep (S := fun k => base ≤ k) ⟨hb.os, hb.tape, hb.output, hb.size, fun k _ hk => hb.block k (by omega)⟩ (fun x n q e h0 hk => by have := h x n q e h0; omega)
theorem Lw.slcI {w w' : World} {base : Nat} {u : Value} {ps : List Int} (h : Lw base u) (hs : SlcI w u ps) (hb : Below base w w') : SlcI w' u ps :=
  hs.keep (S := fun k => base ≤ k) ⟨hb.os, hb.tape, hb.output, hb.size, fun k _ hk => hb.block k (by omega)⟩ (fun x n q e h0 hk => by have := h x n q e h0; omega)

set_option maxRecDepth 100000 in
theorem within_any (n lo hi : Int) (w : World) : Calls Tryz.prog 15 #[.int .i64 n, .int .i64 lo, .int .i64 hi] w fun e w' => e = .returned (.bool (wi n lo hi)) ∧ w' = w := by
  by_cases h1 : lo ≤ n
  · by_cases h2 : n ≤ hi
    · have e : wi n lo hi = true := decide_eq_true ⟨h1, h2⟩
      rw [e]
      go_enter Tryz.func15, Tryz.ntmps15
      go_wp2
      go_ret
      exact ⟨rfl, rfl⟩
    · have e : wi n lo hi = false := decide_eq_false (fun h => h2 h.2)
      rw [e]
      go_enter Tryz.func15, Tryz.ntmps15
      go_wp2
      go_ret
      exact ⟨rfl, rfl⟩
  · have e : wi n lo hi = false := decide_eq_false (fun h => h1 h.1)
    rw [e]
    go_enter Tryz.func15, Tryz.ntmps15
    go_wp2
    go_ret
    exact ⟨rfl, rfl⟩
set_option maxRecDepth 100000 in
theorem isSize_any (n : Int) (w : World) : Calls Tryz.prog 100 #[.int .i64 n] w fun e w' => e = .returned (.bool (isSz n)) ∧ w' = w := by
  go_enter Tryz.func100, Tryz.ntmps100
  go_wp2_with (go_at_call 15; refine (within_any _ _ _ _).mono ?_; rintro e w' ⟨rfl, hw'⟩; rw [hw']; clear hw' w')
  go_ret
  exact ⟨rfl, rfl⟩
set_option maxRecDepth 100000 in
set_option maxHeartbeats 400000 in
theorem takes_any {base b c : Nat} {v : Value} {s : LS} (ok : Bool) (w : World) (h : Ly w base b c v s) :
    Calls Tryz.prog 31 #[.pointer (some ⟨c, 0, none⟩), .bool ok] w fun e w' => e = .returned (.bool ok) ∧ Ly w' base b c v (s.1, s.2 || !ok) ∧ But c w w' := by
  have c1 := h.c1
  have f1 := h.f1
  have H := hid h
  obtain ⟨st, q⟩ := s
  clear h
  cases q <;> cases ok <;>
  · go_enter Tryz.func31, Tryz.ntmps31
    go_wp2
    go_ret
    exact ⟨rfl, H.out.mark _ (row2_set1 H.out.row) ((But.refl _ _).setCell _ _), (But.refl _ _).setCell _ _⟩
end Msg
end Go.Proofs.YteilkpihddfpeaaGreatDoor

namespace Go.Proofs.YteilkpihddfpeaaGreatDoor
open Go.RowKit Cod
namespace Msg

/-- at most so many bytes were written -/
def Sm (s : LS) (m : Nat) : Prop := ∀ bs, s.1 = .ok bs → bs.length ≤ m
theorem Sm.mono {s : LS} {m k : Nat} (h : Sm s m) (hk : m ≤ k) : Sm s k := fun bs e => Nat.le_trans (h bs e) hk
theorem Sm.lif {s : LS} {m : Nat} (h : Sm s m) (ok : Bool) (e : Int) (l : List UInt8) : Sm (lif ok e l s) (m + l.length) := fun bs hb => by
  rw [Msg.lif] at hb
  split at hb
  · have hb : s.1.put e l = .ok bs := hb
    cases hs : s.1 with
    | bad f => rw [hs] at hb; cases hb
    | ok b0 =>
      have := h b0 hs
      rw [hs, WSt.put] at hb
      split at hb
      · injection hb with hb; subst hb; rw [List.length_append]; omega
      · cases hb
  · have := h bs hb; omega
theorem Lo.mk' {w w1 w2 : World} {base b c : Nat} {v : Value} {s1 : LS} {st : WSt} {r : Ending} (k : But c w w1) (h1 : Ly w1 base b c v s1) (p : WPost w1 base b v st r w2) : r = .returned (.tuple #[]) ∧ Lo w base b c v (st, s1.2) w2 := by
  obtain ⟨hr, hl⟩ := h1.wrote p
  exact ⟨hr, Lo.step (Keep.ofBut k (.inl rfl)) (From.refl _ _) hl⟩
theorem Lo.no {w w1 : World} {base b c : Nat} {v : Value} {s : LS} (k : But c w w1) (h1 : Ly w1 base b c v (s.1, s.2 || !false)) : Lo w base b c v (s.1, true) w1 := by
  rw [Bool.not_false, Bool.or_true] at h1
  exact ⟨v, h1, Keep.ofBut k (.inl rfl), From.refl _ _⟩
theorem Ly.yes {w1 : World} {base b c : Nat} {v : Value} {s : LS} (h1 : Ly w1 base b c v (s.1, s.2 || !true)) : Ly w1 base b c v s := by
  rw [Bool.not_true, Bool.or_false] at h1
  exact h1
theorem lif_no {ok : Bool} (h : ok = false) (e : Int) (l : List UInt8) (s : LS) : lif ok e l s = (s.1, true) := by rw [lif, h]; rfl
theorem lif_yes {ok : Bool} (h : ok = true) (e : Int) (l : List UInt8) (s : LS) : lif ok e l s = (s.1.put e l, s.2) := by rw [lif, if_pos h]
theorem But.bl' {w w1 : World} {base b c : Nat} {v : Value} {s : LS} (h : Ly w base b c v s) (k : But c w w1) : Below base w w1 := k.below h.ge h.base

set_option maxRecDepth 100000 in
set_option maxHeartbeats 400000 in
theorem layMark_any {base b c : Nat} {v : Value} {s : LS} (n lo hi : Int) (w : World) (h : Ly w base b c v s) (hm : Sm s 140737488355327) :
    Calls Tryz.prog 88 #[.pointer (some ⟨c, 0, none⟩), .int .i64 n, .int .i64 lo, .int .i64 hi] w fun e w' => e = .returned (.tuple #[.int .i64 (if wi n lo hi = true then n else 0), .bool (wi n lo hi)]) ∧ Lo w base b c v (lMark n lo hi s) w' := by
  have i1 := within_any n lo hi w
  have i2 := takes_any (wi n lo hi) w h
  cases hw : wi n lo hi with
  | false =>
    rw [hw] at i1 i2
    rw [lMark, lif_no hw]
    clear h hm
    go_enter Tryz.func88, Tryz.ntmps88
    go_wp2_with (first
      | (go_at_call 15; refine i1.mono ?_; rintro e w' ⟨rfl, hw'⟩; rw [hw']; clear hw' w')
      | (go_at_call 31; refine i2.mono ?_; rintro e w1 ⟨rfl, h1, h2⟩; have H1 := hid (Lo.no h2 h1); clear h1 h2))
    go_ret2
    exact ⟨rfl, H1.out⟩
  | true =>
    rw [hw] at i1 i2
    rw [lMark, lif_yes hw]
    have HM := hid hm
    clear h hm
    go_enter Tryz.func88, Tryz.ntmps88
    go_wp2_with (first
      | (go_at_call 15; refine i1.mono ?_; rintro e w' ⟨rfl, hw'⟩; rw [hw']; clear hw' w')
      | (go_at_call 31; refine i2.mono ?_; rintro e w1 ⟨rfl, h1, h2⟩; have h1 := h1.yes; have d0 := h1.c0; have i3 := wByte_any base b v s.1 n w1 h1.wri h1.base (fun bs e => by have := HM.out bs e; omega); have H1 := hid h1; have H2 := hid h2; clear h1 h2)
      | (go_at_call 84; refine i3.mono ?_; intro e w2 p; obtain ⟨hr, hl⟩ := Lo.mk' H2.out H1.out p; subst hr; have HL := hid hl; clear hl p))
    go_ret2
    exact ⟨rfl, HL.out⟩
set_option maxRecDepth 100000 in
set_option maxHeartbeats 400000 in
theorem laySize_any {base b c : Nat} {v : Value} {s : LS} (n : Int) (b1 : -9223372036854775808 ≤ n) (b2 : n ≤ 9223372036854775807) (w : World) (h : Ly w base b c v s) (hm : Sm s 140737488355319) :
    Calls Tryz.prog 91 #[.pointer (some ⟨c, 0, none⟩), .int .i64 n] w fun e w' => e = .returned (.int .i64 n) ∧ Lo w base b c v (lSize n s) w' := by
  have i1 := isSize_any n w
  have i2 := takes_any (isSz n) w h
  cases hw : isSz n with
  | false =>
    rw [hw] at i1 i2
    rw [lSize, lif_no hw]
    clear h hm
    go_enter Tryz.func91, Tryz.ntmps91
    go_wp2_with (first
      | (go_at_call 100; refine i1.mono ?_; rintro e w' ⟨rfl, hw'⟩; rw [hw']; clear hw' w')
      | (go_at_call 31; refine i2.mono ?_; rintro e w1 ⟨rfl, h1, h2⟩; have H1 := hid (Lo.no h2 h1); clear h1 h2))
    go_ret
    exact ⟨rfl, H1.out⟩
  | true =>
    rw [hw] at i1 i2
    rw [lSize, lif_yes hw]
    have HM := hid hm
    clear h hm
    go_enter Tryz.func91, Tryz.ntmps91
    go_wp2_with (first
      | (go_at_call 100; refine i1.mono ?_; rintro e w' ⟨rfl, hw'⟩; rw [hw']; clear hw' w')
      | (go_at_call 31; refine i2.mono ?_; rintro e w1 ⟨rfl, h1, h2⟩; have h1 := h1.yes; have d0 := h1.c0; have i3 := wNum_any base b v s.1 n b1 b2 w1 h1.wri h1.base (fun bs e => by have := HM.out bs e; omega); have H1 := hid h1; have H2 := hid h2; clear h1 h2)
      | (go_at_call 94; refine i3.mono ?_; intro e w2 p; obtain ⟨hr, hl⟩ := Lo.mk' H2.out H1.out p; subst hr; have HL := hid hl; clear hl p))
    go_ret
    exact ⟨rfl, HL.out⟩
set_option maxRecDepth 100000 in
set_option maxHeartbeats 400000 in
theorem layRoot_any {base b c : Nat} {v : Value} {s : LS} (t : ByteArray) (w : World) (h : Ly w base b c v s) (hm : Sm s 140737488355296) :
    Calls Tryz.prog 90 #[.pointer (some ⟨c, 0, none⟩), .string t] w fun e w' => e = .returned (.string t) ∧ Lo w base b c v (lRoot t.data.toList s) w' := by
  have hl := data_length t
  by_cases h32 : t.size = 32
  · have hw : decide (t.data.toList.length = 32) = true := decide_eq_true (by omega)
    have i2 := takes_any true w h
    have e1 : ((t.size : Int) == 32) = true := by simp; omega
    rw [lRoot, lif_yes hw]
    have HM := hid hm
    have H32 := hid h32
    clear h hm hl hw h32
    go_enter Tryz.func90, Tryz.ntmps90
    go_wp2_with (first
      | (go_at_call 31; refine i2.mono ?_; rintro e w1 ⟨rfl, h1, h2⟩; have h1 := h1.yes; have d0 := h1.c0; have i3 := wRaw_any base b v s.1 t w1 h1.wri h1.base (fun bs e => by have := HM.out bs e; have := H32.out; omega); have H1 := hid h1; have H2 := hid h2; clear h1 h2)
      | (go_at_call 99; refine i3.mono ?_; intro e w2 p; obtain ⟨hr, hl⟩ := Lo.mk' H2.out H1.out p; subst hr; have HL := hid hl; clear hl p))
    go_ret
    exact ⟨rfl, HL.out⟩
  · have hw : decide (t.data.toList.length = 32) = false := decide_eq_false (by omega)
    have i2 := takes_any false w h
    have e1 : ((t.size : Int) == 32) = false := by simp; omega
    rw [lRoot, lif_no hw]
    clear h hm hl hw h32
    go_enter Tryz.func90, Tryz.ntmps90
    go_wp2_with (go_at_call 31; refine i2.mono ?_; rintro e w1 ⟨rfl, h1, h2⟩; have H1 := hid (Lo.no h2 h1); clear h1 h2)
    go_ret
    exact ⟨rfl, H1.out⟩
set_option maxRecDepth 100000 in
set_option maxHeartbeats 400000 in
theorem layHashes_any {base b c : Nat} {v : Value} {s : LS} (u : Value) (ps : List (List UInt8)) (hl : ps.length ≤ maxLen) (w : World) (hs : Slc w u ps) (hu : Lw base u) (h : Ly w base b c v s) (hm : ∀ bs, s.1 = .ok bs → bs.length + (wrHashes ps).length ≤ 140737488355328) :
    Calls Tryz.prog 87 #[.pointer (some ⟨c, 0, none⟩), u] w fun e w' => e = .returned u ∧ Lo w base b c v (lHashes ps s) w' := by
  have d0 := h.c0
  have i3 := wHashes_any base b v s.1 u ps 32768 hl w hs (hu.apart h) h.wri h.base hm
  rw [lHashes, lif_yes rfl]
  obtain ⟨a, cap, rfl, _⟩ := hs
  have H1 := hid h
  clear h hm hu
  go_enter Tryz.func87, Tryz.ntmps87
  go_wp2_with (go_at_call 95; refine i3.mono ?_; intro e w2 p; obtain ⟨hr, hl⟩ := H1.out.wrote p; subst hr; have HL := hid hl; clear hl p)
  go_ret
  exact ⟨rfl, HL.out⟩
set_option maxRecDepth 100000 in
set_option maxHeartbeats 400000 in
theorem layTexts_any {base b c : Nat} {v : Value} {s : LS} (u : Value) (ps : List (List UInt8)) (least many most : Int) (hl : ps.length ≤ maxLen) (w : World) (hs : Slc w u ps) (hu : Lw base u) (h : Ly w base b c v s) (hm : ∀ bs, s.1 = .ok bs → bs.length + (wrTexts ps).length ≤ 140737488355328) :
    Calls Tryz.prog 93 #[.pointer (some ⟨c, 0, none⟩), u, .int .i64 least, .int .i64 many, .int .i64 most] w fun e w' => e = .returned u ∧ Lo w base b c v (lTexts ps least many most s) w' := by
  obtain ⟨a, cap, hu1, hs1⟩ := hs
  subst hu1
  have hs : Slc w (.slice a ps.length cap) ps := ⟨a, cap, rfl, hs1⟩
  by_cases hg : least ≤ (ps.length : Int)
  · have hw : decide (least ≤ (ps.length : Int)) = true := decide_eq_true hg
    have i2 := takes_any true w h
    rw [lTexts, lif_yes hw]
    have HM := hid hm
    have HS := hid hs
    have HU := hid hu
    have HY := hid h
    clear h hm hs hs1 hu hw
    go_enter Tryz.func93, Tryz.ntmps93
    go_wp2_with (first
      | (go_at_call 31; refine i2.mono ?_; rintro e w1 ⟨rfl, h1, h2⟩; have h1 := h1.yes; have d0 := h1.c0; have i3 := wTexts_any base b v s.1 _ ps many most hl w1 (HU.out.slc HS.out (But.bl' HY.out h2)) (HU.out.apart h1) h1.wri h1.base HM.out; have H1 := hid h1; have H2 := hid h2; clear h1 h2)
      | (go_at_call 103; refine i3.mono ?_; intro e w2 p; obtain ⟨hr, hl⟩ := Lo.mk' H2.out H1.out p; subst hr; have HL := hid hl; clear hl p))
    go_ret
    exact ⟨rfl, HL.out⟩
  · have hw : decide (least ≤ (ps.length : Int)) = false := decide_eq_false hg
    have i2 := takes_any false w h
    rw [lTexts, lif_no hw]
    clear h hm hs hs1 hu hw
    go_enter Tryz.func93, Tryz.ntmps93
    go_wp2_with (go_at_call 31; refine i2.mono ?_; rintro e w1 ⟨rfl, h1, h2⟩; have H1 := hid (Lo.no h2 h1); clear h1 h2)
    go_ret
    exact ⟨rfl, H1.out⟩
end Msg
end Go.Proofs.YteilkpihddfpeaaGreatDoor

namespace Go.Proofs.YteilkpihddfpeaaGreatDoor
open Go.RowKit Cod
namespace Msg

set_option maxRecDepth 100000 in
set_option maxHeartbeats 400000 in
theorem areSizes_any (u : Value) (l : List Int) (many : Int) (hl : l.length ≤ maxLen) (w : World) (hs : SlcI w u l) :
    Calls Tryz.prog 101 #[u, .int .i64 many] w fun e w' => e = .returned (.bool (arSz l many)) ∧ w' = w := by
  unfold maxLen at hl
  obtain ⟨a, cap, rfl, hs⟩ := hs
  have i1 := within_any (l.length : Int) 1 many w
  cases hw : wi (l.length : Int) 1 many with
  | false =>
    rw [hw] at i1
    rw [arSz, hw, Bool.false_and]
    clear hs hw
    go_enter Tryz.func101, Tryz.ntmps101
    go_wp2_with (go_at_call 15; refine i1.mono ?_; rintro e w' ⟨rfl, hw'⟩; rw [hw']; clear hw' w')
    go_ret
    exact ⟨rfl, rfl⟩
  | true =>
    rw [hw] at i1
    have hp : 1 ≤ (l.length : Int) := (wi_iff.1 hw).1
    have hlt : l.length - 1 < l.length := by omega
    obtain ⟨x, hx, hxb, hc⟩ := hs (l.length - 1) _ (List.getElem?_eq_getElem hlt)
    subst hx
    have hg : l.getLast?.getD 0 = l[l.length - 1] := by rw [List.getLast?_eq_getElem?, List.getElem?_eq_getElem hlt]; rfl
    rw [arSz, hw, Bool.true_and, hg]
    have i2 := isSize_any l[l.length - 1] w
    generalize l[l.length - 1] = z at *
    obtain ⟨k, hk⟩ : ∃ k : Nat, l.length - 1 = k := ⟨_, rfl⟩
    have hk2 : (l.length : Int) - 1 = (k : Int) := by omega
    have hk3 : wrap64 ((l.length : Int) - 1) = (k : Int) := by rw [hk2]; unfold wrap64; omega
    have hk4 : (k : Int) < (l.length : Int) := by omega
    rw [hk] at hc
    clear hs hw hg hk2
    go_enter Tryz.func101, Tryz.ntmps101
    go_wp2_with (first
      | (go_at_call 15; refine i1.mono ?_; rintro e w' ⟨rfl, hw'⟩; rw [hw']; clear hw' w')
      | (go_at_call 100; refine i2.mono ?_; rintro e w' ⟨rfl, hw'⟩; rw [hw']; clear hw' w'))
    go_ret
    exact ⟨rfl, rfl⟩
set_option maxRecDepth 100000 in
set_option maxHeartbeats 400000 in
theorem laySizes_any {base b c : Nat} {v : Value} {s : LS} (u : Value) (l : List Int) (many : Int) (hb : ∀ c ∈ l, -9223372036854775808 ≤ c ∧ c ≤ 9223372036854775807) (hl : l.length ≤ maxLen) (w : World) (hs : SlcI w u l) (hu : Lw base u) (h : Ly w base b c v s) (hm : ∀ bs, s.1 = .ok bs → bs.length + (wrRising (l.map Int.toNat)).length ≤ 140737488355328) :
    Calls Tryz.prog 92 #[.pointer (some ⟨c, 0, none⟩), u, .int .i64 many] w fun e w' => e = .returned u ∧ Lo w base b c v (lSizes l many s) w' := by
  have i1 := areSizes_any u l many hl w hs
  have i2 := takes_any (arSz l many) w h
  obtain ⟨a, cap, hu1, hs1⟩ := hs
  subst hu1
  have hs : SlcI w (.slice a l.length cap) l := ⟨a, cap, rfl, hs1⟩
  clear hs1
  cases hw : arSz l many with
  | false =>
    rw [hw] at i1 i2
    rw [lSizes, lif_no hw]
    clear h hm hs
    go_enter Tryz.func92, Tryz.ntmps92
    go_wp2_with (first
      | (go_at_call 101; refine i1.mono ?_; rintro e w' ⟨rfl, hw'⟩; rw [hw']; clear hw' w')
      | (go_at_call 31; refine i2.mono ?_; rintro e w1 ⟨rfl, h1, h2⟩; have H1 := hid (Lo.no h2 h1); clear h1 h2))
    go_ret
    exact ⟨rfl, H1.out⟩
  | true =>
    rw [hw] at i1 i2
    rw [lSizes, lif_yes hw]
    have HM := hid hm
    have HS := hid hs
    have HU := hid hu
    have HY := hid h
    clear h hm hs hu hw
    go_enter Tryz.func92, Tryz.ntmps92
    go_wp2_with (first
      | (go_at_call 101; refine i1.mono ?_; rintro e w' ⟨rfl, hw'⟩; rw [hw']; clear hw' w')
      | (go_at_call 31; refine i2.mono ?_; rintro e w1 ⟨rfl, h1, h2⟩; have h1 := h1.yes; have d0 := h1.c0; have i3 := wRising_any base b v s.1 _ l hb hl w1 (HU.out.slcI HS.out (But.bl' HY.out h2)) (HU.out.apart h1) h1.wri h1.base HM.out; have H1 := hid h1; have H2 := hid h2; clear h1 h2)
      | (go_at_call 102; refine i3.mono ?_; intro e w2 p; obtain ⟨hr, hl⟩ := Lo.mk' H2.out H1.out p; subst hr; have HL := hid hl; clear hl p))
    go_ret
    exact ⟨rfl, HL.out⟩
end Msg
end Go.Proofs.YteilkpihddfpeaaGreatDoor

namespace Go.Proofs.YteilkpihddfpeaaGreatDoor
open Go.RowKit Cod
namespace Msg

-- sizes: the bound is asked only where they are laid down
set_option maxRecDepth 100000 in
set_option maxHeartbeats 400000 in
theorem laySizes_all {base b c : Nat} {v : Value} {s : LS} (u : Value) (l : List Int) (many : Int) (hb : ∀ c ∈ l, -9223372036854775808 ≤ c ∧ c ≤ 9223372036854775807) (hl : l.length ≤ maxLen) (w : World) (hs : SlcI w u l) (hu : Lw base u) (h : Ly w base b c v s) (hm : arSz l many = true → ∀ bs, s.1 = .ok bs → bs.length + (wrRising (l.map Int.toNat)).length ≤ 140737488355328) :
    Calls Tryz.prog 92 #[.pointer (some ⟨c, 0, none⟩), u, .int .i64 many] w fun e w' => e = .returned u ∧ Lo w base b c v (lSizes l many s) w' := by
  have i1 := areSizes_any u l many hl w hs
  have i2 := takes_any (arSz l many) w h
  obtain ⟨a, cap, hu1, hs1⟩ := hs
  subst hu1
  have hs : SlcI w (.slice a l.length cap) l := ⟨a, cap, rfl, hs1⟩
  clear hs1
  cases hw : arSz l many with
  | false =>
    rw [hw] at i1 i2
    rw [lSizes, lif_no hw]
    clear h hm hs
    go_enter Tryz.func92, Tryz.ntmps92
    go_wp2_with (first
      | (go_at_call 101; refine i1.mono ?_; rintro e w' ⟨rfl, hw'⟩; rw [hw']; clear hw' w')
      | (go_at_call 31; refine i2.mono ?_; rintro e w1 ⟨rfl, h1, h2⟩; have H1 := hid (Lo.no h2 h1); clear h1 h2))
    go_ret
    exact ⟨rfl, H1.out⟩
  | true =>
    rw [hw] at i1 i2
    rw [lSizes, lif_yes hw]
    have HM := hid (hm hw)
    have HS := hid hs
    have HU := hid hu
    have HY := hid h
    clear h hm hs hu hw
    go_enter Tryz.func92, Tryz.ntmps92
    go_wp2_with (first
      | (go_at_call 101; refine i1.mono ?_; rintro e w' ⟨rfl, hw'⟩; rw [hw']; clear hw' w')
      | (go_at_call 31; refine i2.mono ?_; rintro e w1 ⟨rfl, h1, h2⟩; have h1 := h1.yes; have d0 := h1.c0; have i3 := wRising_any base b v s.1 _ l hb hl w1 (HU.out.slcI HS.out (But.bl' HY.out h2)) (HU.out.apart h1) h1.wri h1.base HM.out; have H1 := hid h1; have H2 := hid h2; clear h1 h2)
      | (go_at_call 102; refine i3.mono ?_; intro e w2 p; obtain ⟨hr, hl⟩ := Lo.mk' H2.out H1.out p; subst hr; have HL := hid hl; clear hl p))
    go_ret
    exact ⟨rfl, HL.out⟩
end Msg
end Go.Proofs.YteilkpihddfpeaaGreatDoor

namespace Go.Proofs.YteilkpihddfpeaaGreatDoor
open Go.RowKit Cod
namespace Msg

theorem wrTexts_len {ps : List (List UInt8)} (hn : ps.length ≤ 4096) (hp : ∀ p ∈ ps, p.length ≤ 4096) : (wrTexts ps).length ≤ 68719476736 := by
  have h9 : (digs ps.length).length ≤ 9 := digs_len9 (by omega)
  have key : ∀ qs : List (List UInt8), (∀ p ∈ qs, p.length ≤ 4096) → ((qs.map wrText).flatten).length ≤ qs.length * 4105 := fun qs => by
    induction qs with
    | nil => intro _; simp
    | cons q qs ih =>
      intro h
      have h1 := ih (fun p hp => h p (by simp [hp]))
      have h2 : q.length ≤ 4096 := h q (by simp)
      have h3 : (digs q.length).length ≤ 9 := digs_len9 (by omega)
      rw [List.map_cons, List.flatten_cons, List.length_append, wrText, List.length_append, List.length_cons]
      omega
  have := key ps hp
  rw [wrTexts, List.length_append]
  have := Nat.mul_le_mul_right 4105 hn
  omega
theorem texts_fit {ps : List (List UInt8)} {many most : Int} (h : textsErr ps many most = 0) (hm : many ≤ 4096) (ho : most ≤ 4096) : (wrTexts ps).length ≤ 68719476736 := by
  rw [textsErr] at h
  split at h
  · cases h
  split at h
  · cases h
  split at h
  · rename_i a1 a2 a3
    exact wrTexts_len (by omega) (fun p hp => by have := a3 p hp; omega)
  · cases h
theorem wrRise_len : ∀ (l : List Nat) (least : Nat), (∀ n ∈ l, n ≤ 9223372036854775807) → (wrRise least l).length ≤ l.length * 10
  | [], _, _ => Nat.zero_le _
  | n :: l, least, h => by
    have h1 := wrRise_len l (n + 1) (fun m hm => h m (by simp [hm]))
    have h2 : (digs (n - least)).length ≤ 9 + 1 := digs_len 9 (n - least) (by have := h n (by simp); have e : 128 ^ (9 + 1) = 1180591620717411303424 := (by decide); omega)
    rw [wrRise_cons, List.length_append, List.length_cons]
    omega
theorem rising_fit {l : List Int} {many : Int} (hl : ∀ c ∈ l, -9223372036854775808 ≤ c ∧ c ≤ 9223372036854775807) (h : arSz l many = true) (hm : many ≤ 4096) : (wrRising (l.map Int.toNat)).length ≤ 68719476736 := by
  rw [arSz, Bool.and_eq_true] at h
  have hw := (wi_iff.1 h.1).2
  have h9 : (digs (l.map Int.toNat).length).length ≤ 9 := digs_len9 (by rw [List.length_map]; omega)
  have := wrRise_len (l.map Int.toNat) 0 (fun n hn => by
    obtain ⟨c, hc, rfl⟩ := List.mem_map.1 hn
    have := (hl c hc).2
    omega)
  rw [List.length_map] at this
  rw [wrRising, List.length_append]
  omega
theorem hashes_fit {ps : List (List UInt8)} (h : hashesErr ps 32768 = 0) : (wrHashes ps).length ≤ 68719476736 := by
  rw [hashesErr] at h
  split at h
  · cases h
  split at h
  · cases h
  split at h
  · rename_i a1 a2 a3
    have h9 : (digs ps.length).length ≤ 9 := digs_len9 (by omega)
    have key : ∀ qs : List (List UInt8), (∀ p ∈ qs, p.length = 32) → qs.flatten.length = qs.length * 32 := fun qs => by
      induction qs with
      | nil => intro _; simp
      | cons q qs ih =>
        intro h
        have h1 := ih (fun p hp => h p (by simp [hp]))
        have h2 : q.length = 32 := h q (by simp)
        rw [List.flatten_cons, List.length_append, List.length_cons]
        omega
    have := key ps a3
    rw [wrHashes, List.length_append]
    omega
  · cases h
set_option maxRecDepth 100000 in
set_option maxHeartbeats 400000 in
theorem layHashes_all {base b c : Nat} {v : Value} {s : LS} (u : Value) (ps : List (List UInt8)) (hl : ps.length ≤ maxLen) (w : World) (hs : Slc w u ps) (hu : Lw base u) (h : Ly w base b c v s) (hm : hashesErr ps 32768 = 0 → ∀ bs, s.1 = .ok bs → bs.length + (wrHashes ps).length ≤ 140737488355328) :
    Calls Tryz.prog 87 #[.pointer (some ⟨c, 0, none⟩), u] w fun e w' => e = .returned u ∧ Lo w base b c v (lHashes ps s) w' := by
  have d0 := h.c0
  have i3 := wHashes_all base b v s.1 u ps 32768 hl w hs (hu.apart h) h.wri h.base hm
  rw [lHashes, lif_yes rfl]
  obtain ⟨a, cap, rfl, _⟩ := hs
  have H1 := hid h
  clear h hm hu
  go_enter Tryz.func87, Tryz.ntmps87
  go_wp2_with (go_at_call 95; refine i3.mono ?_; intro e w2 p; obtain ⟨hr, hl⟩ := H1.out.wrote p; subst hr; have HL := hid hl; clear hl p)
  go_ret
  exact ⟨rfl, HL.out⟩
set_option maxRecDepth 100000 in
set_option maxHeartbeats 400000 in
theorem layTexts_all {base b c : Nat} {v : Value} {s : LS} (u : Value) (ps : List (List UInt8)) (least many most : Int) (hl : ps.length ≤ maxLen) (w : World) (hs : Slc w u ps) (hu : Lw base u) (h : Ly w base b c v s) (hm : textsErr ps many most = 0 → ∀ bs, s.1 = .ok bs → bs.length + (wrTexts ps).length ≤ 140737488355328) :
    Calls Tryz.prog 93 #[.pointer (some ⟨c, 0, none⟩), u, .int .i64 least, .int .i64 many, .int .i64 most] w fun e w' => e = .returned u ∧ Lo w base b c v (lTexts ps least many most s) w' := by
  obtain ⟨a, cap, hu1, hs1⟩ := hs
  subst hu1
  have hs : Slc w (.slice a ps.length cap) ps := ⟨a, cap, rfl, hs1⟩
  by_cases hg : least ≤ (ps.length : Int)
  · have hw : decide (least ≤ (ps.length : Int)) = true := decide_eq_true hg
    have i2 := takes_any true w h
    rw [lTexts, lif_yes hw]
    have HM := hid hm
    have HS := hid hs
    have HU := hid hu
    have HY := hid h
    clear h hm hs hs1 hu hw
    go_enter Tryz.func93, Tryz.ntmps93
    go_wp2_with (first
      | (go_at_call 31; refine i2.mono ?_; rintro e w1 ⟨rfl, h1, h2⟩; have h1 := h1.yes; have d0 := h1.c0; have i3 := wTexts_all base b v s.1 _ ps many most hl w1 (HU.out.slc HS.out (But.bl' HY.out h2)) (HU.out.apart h1) h1.wri h1.base HM.out; have H1 := hid h1; have H2 := hid h2; clear h1 h2)
      | (go_at_call 103; refine i3.mono ?_; intro e w2 p; obtain ⟨hr, hl⟩ := Lo.mk' H2.out H1.out p; subst hr; have HL := hid hl; clear hl p))
    go_ret
    exact ⟨rfl, HL.out⟩
  · have hw : decide (least ≤ (ps.length : Int)) = false := decide_eq_false hg
    have i2 := takes_any false w h
    rw [lTexts, lif_no hw]
    clear h hm hs hs1 hu hw
    go_enter Tryz.func93, Tryz.ntmps93
    go_wp2_with (go_at_call 31; refine i2.mono ?_; rintro e w1 ⟨rfl, h1, h2⟩; have H1 := hid (Lo.no h2 h1); clear h1 h2)
    go_ret
    exact ⟨rfl, H1.out⟩
end Msg
end Go.Proofs.YteilkpihddfpeaaGreatDoor
