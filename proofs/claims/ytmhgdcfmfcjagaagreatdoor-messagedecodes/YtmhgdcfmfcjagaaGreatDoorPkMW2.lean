import Derived.Test.YtmhgdcfmfcjagaaGreatDoorPkMX2
import Derived.Test.YtmhgdcfmfcjagaaGreatDoorPkG3
namespace Go.Proofs.YtmhgdcfmfcjagaaGreatDoor
open Go.RowKit Cod
namespace Msg

/-- at most so many bytes were written -/
def Sm (s : LS) (m : Nat) : Prop := ∀ bs, s.1 = .ok bs → bs.length ≤ m
theorem Sm.mono {s : LS} {m k : Nat} (h : Sm s m) (hk : m ≤ k) : Sm s k := fun bs e => Nat.le_trans (h bs e) hk
theorem Sm.lif {s : LS} {m : Nat} (h : Sm s m) (ok : Bool) (e : Int) (l : List UInt8) : Sm (lif ok e l s) (m + l.length) := fun bs hb => by
  rw [Msg.lif] at hb
  split at hb
  · have hb : s.1.put e l = .ok bs := hb
    cases hs : s.1 with
    | bad f => rw [hs] at hb; cases hb
    | ok b0 =>
      have := h b0 hs
      rw [hs, WSt.put] at hb
      split at hb
      · injection hb with hb; subst hb; rw [List.length_append]; omega
      · cases hb
  · have := h bs hb; omega
theorem Lo.mk' {w w1 w2 : World} {base b c : Nat} {v : Value} {s1 : LS} {st : WSt} {r : Ending} (k : But c w w1) (h1 : Ly w1 base b c v s1) (p : WPost w1 base b v st r w2) : r = .returned (.tuple #[]) ∧ Lo w base b c v (st, s1.2) w2 := by
  obtain ⟨hr, hl⟩ := h1.wrote p
  exact ⟨hr, Lo.step (Keep.ofBut k (.inl rfl)) (From.refl _ _) hl⟩
theorem Lo.no {w w1 : World} {base b c : Nat} {v : Value} {s : LS} (k : But c w w1) (h1 : Ly w1 base b c v (s.1, s.2 || !false)) : Lo w base b c v (s.1, true) w1 := by
  rw [Bool.not_false, Bool.or_true] at h1
  exact ⟨v, h1, Keep.ofBut k (.inl rfl), From.refl _ _⟩
theorem Ly.yes {w1 : World} {base b c : Nat} {v : Value} {s : LS} (h1 : Ly w1 base b c v (s.1, s.2 || !true)) : Ly w1 base b c v s := by
  rw [Bool.not_true, Bool.or_false] at h1
  exact h1
theorem lif_no {ok : Bool} (h : ok = false) (e : Int) (l : List UInt8) (s : LS) : lif ok e l s = (s.1, true) := by rw [lif, h]; rfl
theorem lif_yes {ok : Bool} (h : ok = true) (e : Int) (l : List UInt8) (s : LS) : lif ok e l s = (s.1.put e l, s.2) := by rw [lif, if_pos h]
theorem But.bl' {w w1 : World} {base b c : Nat} {v : Value} {s : LS} (h : Ly w base b c v s) (k : But c w w1) : Below base w w1 := k.below h.ge h.base

set_option maxRecDepth 100000 in
set_option maxHeartbeats 400000 in
theorem layMark_any {base b c : Nat} {v : Value} {s : LS} (n lo hi : Int) (w : World) (h : Ly w base b c v s) (hm : Sm s 140737488355327) :
    Calls Tryz.prog 152 #[.pointer (some ⟨c, 0, none⟩), .int .i64 n, .int .i64 lo, .int .i64 hi] w fun e w' => e = .returned (.tuple #[.int .i64 (if wi n lo hi = true then n else 0), .bool (wi n lo hi)]) ∧ Lo w base b c v (lMark n lo hi s) w' := by
  have i1 := within_any n lo hi w
  have i2 := takes_any (wi n lo hi) w h
  cases hw : wi n lo hi with
  | false =>
    rw [hw] at i1 i2
    rw [lMark, lif_no hw]
    clear h hm
    go_enter Tryz.func152, Tryz.ntmps152
    go_wp2_with (first
      | (go_at_call 28; refine i1.mono ?_; rintro e w' ⟨rfl, hw'⟩; rw [hw']; clear hw' w')
      | (go_at_call 60; refine i2.mono ?_; rintro e w1 ⟨rfl, h1, h2⟩; have H1 := hid (Lo.no h2 h1); clear h1 h2))
    go_ret2
    exact ⟨rfl, H1.out⟩
  | true =>
    rw [hw] at i1 i2
    rw [lMark, lif_yes hw]
    have HM := hid hm
    clear h hm
    go_enter Tryz.func152, Tryz.ntmps152
    go_wp2_with (first
      | (go_at_call 28; refine i1.mono ?_; rintro e w' ⟨rfl, hw'⟩; rw [hw']; clear hw' w')
      | (go_at_call 60; refine i2.mono ?_; rintro e w1 ⟨rfl, h1, h2⟩; have h1 := h1.yes; have d0 := h1.c0; have i3 := wByte_any base b v s.1 n w1 h1.wri h1.base (fun bs e => by have := HM.out bs e; omega); have H1 := hid h1; have H2 := hid h2; clear h1 h2)
      | (go_at_call 148; refine i3.mono ?_; intro e w2 p; obtain ⟨hr, hl⟩ := Lo.mk' H2.out H1.out p; subst hr; have HL := hid hl; clear hl p))
    go_ret2
    exact ⟨rfl, HL.out⟩
set_option maxRecDepth 100000 in
set_option maxHeartbeats 400000 in
theorem laySize_any {base b c : Nat} {v : Value} {s : LS} (n : Int) (b1 : -9223372036854775808 ≤ n) (b2 : n ≤ 9223372036854775807) (w : World) (h : Ly w base b c v s) (hm : Sm s 140737488355319) :
    Calls Tryz.prog 155 #[.pointer (some ⟨c, 0, none⟩), .int .i64 n] w fun e w' => e = .returned (.int .i64 n) ∧ Lo w base b c v (lSize n s) w' := by
  have i1 := isSize_any n w
  have i2 := takes_any (isSz n) w h
  cases hw : isSz n with
  | false =>
    rw [hw] at i1 i2
    rw [lSize, lif_no hw]
    clear h hm
    go_enter Tryz.func155, Tryz.ntmps155
    go_wp2_with (first
      | (go_at_call 164; refine i1.mono ?_; rintro e w' ⟨rfl, hw'⟩; rw [hw']; clear hw' w')
      | (go_at_call 60; refine i2.mono ?_; rintro e w1 ⟨rfl, h1, h2⟩; have H1 := hid (Lo.no h2 h1); clear h1 h2))
    go_ret
    exact ⟨rfl, H1.out⟩
  | true =>
    rw [hw] at i1 i2
    rw [lSize, lif_yes hw]
    have HM := hid hm
    clear h hm
    go_enter Tryz.func155, Tryz.ntmps155
    go_wp2_with (first
      | (go_at_call 164; refine i1.mono ?_; rintro e w' ⟨rfl, hw'⟩; rw [hw']; clear hw' w')
      | (go_at_call 60; refine i2.mono ?_; rintro e w1 ⟨rfl, h1, h2⟩; have h1 := h1.yes; have d0 := h1.c0; have i3 := wNum_any base b v s.1 n b1 b2 w1 h1.wri h1.base (fun bs e => by have := HM.out bs e; omega); have H1 := hid h1; have H2 := hid h2; clear h1 h2)
      | (go_at_call 158; refine i3.mono ?_; intro e w2 p; obtain ⟨hr, hl⟩ := Lo.mk' H2.out H1.out p; subst hr; have HL := hid hl; clear hl p))
    go_ret
    exact ⟨rfl, HL.out⟩
set_option maxRecDepth 100000 in
set_option maxHeartbeats 400000 in
theorem layRoot_any {base b c : Nat} {v : Value} {s : LS} (t : ByteArray) (w : World) (h : Ly w base b c v s) (hm : Sm s 140737488355296) :
    Calls Tryz.prog 154 #[.pointer (some ⟨c, 0, none⟩), .string t] w fun e w' => e = .returned (.string t) ∧ Lo w base b c v (lRoot t.data.toList s) w' := by
  have hl := data_length t
  by_cases h32 : t.size = 32
  · have hw : decide (t.data.toList.length = 32) = true := decide_eq_true (by omega)
    have i2 := takes_any true w h
    have e1 : ((t.size : Int) == 32) = true := by simp; omega
    rw [lRoot, lif_yes hw]
    have HM := hid hm
    have H32 := hid h32
    clear h hm hl hw h32
    go_enter Tryz.func154, Tryz.ntmps154
    go_wp2_with (first
      | (go_at_call 60; refine i2.mono ?_; rintro e w1 ⟨rfl, h1, h2⟩; have h1 := h1.yes; have d0 := h1.c0; have i3 := wRaw_any base b v s.1 t w1 h1.wri h1.base (fun bs e => by have := HM.out bs e; have := H32.out; omega); have H1 := hid h1; have H2 := hid h2; clear h1 h2)
      | (go_at_call 163; refine i3.mono ?_; intro e w2 p; obtain ⟨hr, hl⟩ := Lo.mk' H2.out H1.out p; subst hr; have HL := hid hl; clear hl p))
    go_ret
    exact ⟨rfl, HL.out⟩
  · have hw : decide (t.data.toList.length = 32) = false := decide_eq_false (by omega)
    have i2 := takes_any false w h
    have e1 : ((t.size : Int) == 32) = false := by simp; omega
    rw [lRoot, lif_no hw]
    clear h hm hl hw h32
    go_enter Tryz.func154, Tryz.ntmps154
    go_wp2_with (go_at_call 60; refine i2.mono ?_; rintro e w1 ⟨rfl, h1, h2⟩; have H1 := hid (Lo.no h2 h1); clear h1 h2)
    go_ret
    exact ⟨rfl, H1.out⟩
set_option maxRecDepth 100000 in
set_option maxHeartbeats 400000 in
theorem layHashes_any {base b c : Nat} {v : Value} {s : LS} (u : Value) (ps : List (List UInt8)) (hl : ps.length ≤ maxLen) (w : World) (hs : Slc w u ps) (hu : Lw base u) (h : Ly w base b c v s) (hm : ∀ bs, s.1 = .ok bs → bs.length + (wrHashes ps).length ≤ 140737488355328) :
    Calls Tryz.prog 151 #[.pointer (some ⟨c, 0, none⟩), u] w fun e w' => e = .returned u ∧ Lo w base b c v (lHashes ps s) w' := by
  have d0 := h.c0
  have i3 := wHashes_any base b v s.1 u ps 32768 hl w hs (hu.apart h) h.wri h.base hm
  rw [lHashes, lif_yes rfl]
  obtain ⟨a, cap, rfl, _⟩ := hs
  have H1 := hid h
  clear h hm hu
  go_enter Tryz.func151, Tryz.ntmps151
  go_wp2_with (go_at_call 159; refine i3.mono ?_; intro e w2 p; obtain ⟨hr, hl⟩ := H1.out.wrote p; subst hr; have HL := hid hl; clear hl p)
  go_ret
  exact ⟨rfl, HL.out⟩
set_option maxRecDepth 100000 in
set_option maxHeartbeats 400000 in
theorem layTexts_any {base b c : Nat} {v : Value} {s : LS} (u : Value) (ps : List (List UInt8)) (least many most : Int) (hl : ps.length ≤ maxLen) (w : World) (hs : Slc w u ps) (hu : Lw base u) (h : Ly w base b c v s) (hm : ∀ bs, s.1 = .ok bs → bs.length + (wrTexts ps).length ≤ 140737488355328) :
    Calls Tryz.prog 157 #[.pointer (some ⟨c, 0, none⟩), u, .int .i64 least, .int .i64 many, .int .i64 most] w fun e w' => e = .returned u ∧ Lo w base b c v (lTexts ps least many most s) w' := by
  obtain ⟨a, cap, hu1, hs1⟩ := hs
  subst hu1
  have hs : Slc w (.slice a ps.length cap) ps := ⟨a, cap, rfl, hs1⟩
  by_cases hg : least ≤ (ps.length : Int)
  · have hw : decide (least ≤ (ps.length : Int)) = true := decide_eq_true hg
    have i2 := takes_any true w h
    rw [lTexts, lif_yes hw]
    have HM := hid hm
    have HS := hid hs
    have HU := hid hu
    have HY := hid h
    clear h hm hs hs1 hu hw
    go_enter Tryz.func157, Tryz.ntmps157
    go_wp2_with (first
      | (go_at_call 60; refine i2.mono ?_; rintro e w1 ⟨rfl, h1, h2⟩; have h1 := h1.yes; have d0 := h1.c0; have i3 := wTexts_any base b v s.1 _ ps many most hl w1 (HU.out.slc HS.out (But.bl' HY.out h2)) (HU.out.apart h1) h1.wri h1.base HM.out; have H1 := hid h1; have H2 := hid h2; clear h1 h2)
      | (go_at_call 167; refine i3.mono ?_; intro e w2 p; obtain ⟨hr, hl⟩ := Lo.mk' H2.out H1.out p; subst hr; have HL := hid hl; clear hl p))
    go_ret
    exact ⟨rfl, HL.out⟩
  · have hw : decide (least ≤ (ps.length : Int)) = false := decide_eq_false hg
    have i2 := takes_any false w h
    rw [lTexts, lif_no hw]
    clear h hm hs hs1 hu hw
    go_enter Tryz.func157, Tryz.ntmps157
    go_wp2_with (go_at_call 60; refine i2.mono ?_; rintro e w1 ⟨rfl, h1, h2⟩; have H1 := hid (Lo.no h2 h1); clear h1 h2)
    go_ret
    exact ⟨rfl, H1.out⟩
end Msg
end Go.Proofs.YtmhgdcfmfcjagaaGreatDoor

namespace Go.Proofs.YtmhgdcfmfcjagaaGreatDoor
open Go.RowKit Cod
namespace Msg

set_option maxRecDepth 100000 in
set_option maxHeartbeats 400000 in
theorem areSizes_any (u : Value) (l : List Int) (many : Int) (hl : l.length ≤ maxLen) (w : World) (hs : SlcI w u l) :
    Calls Tryz.prog 165 #[u, .int .i64 many] w fun e w' => e = .returned (.bool (arSz l many)) ∧ w' = w := by
  unfold maxLen at hl
  obtain ⟨a, cap, rfl, hs⟩ := hs
  have i1 := within_any (l.length : Int) 1 many w
  cases hw : wi (l.length : Int) 1 many with
  | false =>
    rw [hw] at i1
    rw [arSz, hw, Bool.false_and]
    clear hs hw
    go_enter Tryz.func165, Tryz.ntmps165
    go_wp2_with (go_at_call 28; refine i1.mono ?_; rintro e w' ⟨rfl, hw'⟩; rw [hw']; clear hw' w')
    go_ret
    exact ⟨rfl, rfl⟩
  | true =>
    rw [hw] at i1
    have hp : 1 ≤ (l.length : Int) := (wi_iff.1 hw).1
    have hlt : l.length - 1 < l.length := by omega
    obtain ⟨x, hx, hxb, hc⟩ := hs (l.length - 1) _ (List.getElem?_eq_getElem hlt)
    subst hx
    have hg : l.getLast?.getD 0 = l[l.length - 1] := by rw [List.getLast?_eq_getElem?, List.getElem?_eq_getElem hlt]; rfl
    rw [arSz, hw, Bool.true_and, hg]
    have i2 := isSize_any l[l.length - 1] w
    generalize l[l.length - 1] = z at *
    obtain ⟨k, hk⟩ : ∃ k : Nat, l.length - 1 = k := ⟨_, rfl⟩
    have hk2 : (l.length : Int) - 1 = (k : Int) := by omega
    have hk3 : wrap64 ((l.length : Int) - 1) = (k : Int) := by rw [hk2]; unfold wrap64; omega
    have hk4 : (k : Int) < (l.length : Int) := by omega
    rw [hk] at hc
    clear hs hw hg hk2
    go_enter Tryz.func165, Tryz.ntmps165
    go_wp2_with (first
      | (go_at_call 28; refine i1.mono ?_; rintro e w' ⟨rfl, hw'⟩; rw [hw']; clear hw' w')
      | (go_at_call 164; refine i2.mono ?_; rintro e w' ⟨rfl, hw'⟩; rw [hw']; clear hw' w'))
    go_ret
    exact ⟨rfl, rfl⟩
set_option maxRecDepth 100000 in
set_option maxHeartbeats 400000 in
theorem laySizes_any {base b c : Nat} {v : Value} {s : LS} (u : Value) (l : List Int) (many : Int) (hb : ∀ c ∈ l, -9223372036854775808 ≤ c ∧ c ≤ 9223372036854775807) (hl : l.length ≤ maxLen) (w : World) (hs : SlcI w u l) (hu : Lw base u) (h : Ly w base b c v s) (hm : ∀ bs, s.1 = .ok bs → bs.length + (wrRising (l.map Int.toNat)).length ≤ 140737488355328) :
    Calls Tryz.prog 156 #[.pointer (some ⟨c, 0, none⟩), u, .int .i64 many] w fun e w' => e = .returned u ∧ Lo w base b c v (lSizes l many s) w' := by
  have i1 := areSizes_any u l many hl w hs
  have i2 := takes_any (arSz l many) w h
  obtain ⟨a, cap, hu1, hs1⟩ := hs
  subst hu1
  have hs : SlcI w (.slice a l.length cap) l := ⟨a, cap, rfl, hs1⟩
  clear hs1
  cases hw : arSz l many with
  | false =>
    rw [hw] at i1 i2
    rw [lSizes, lif_no hw]
    clear h hm hs
    go_enter Tryz.func156, Tryz.ntmps156
    go_wp2_with (first
      | (go_at_call 165; refine i1.mono ?_; rintro e w' ⟨rfl, hw'⟩; rw [hw']; clear hw' w')
      | (go_at_call 60; refine i2.mono ?_; rintro e w1 ⟨rfl, h1, h2⟩; have H1 := hid (Lo.no h2 h1); clear h1 h2))
    go_ret
    exact ⟨rfl, H1.out⟩
  | true =>
    rw [hw] at i1 i2
    rw [lSizes, lif_yes hw]
    have HM := hid hm
    have HS := hid hs
    have HU := hid hu
    have HY := hid h
    clear h hm hs hu hw
    go_enter Tryz.func156, Tryz.ntmps156
    go_wp2_with (first
      | (go_at_call 165; refine i1.mono ?_; rintro e w' ⟨rfl, hw'⟩; rw [hw']; clear hw' w')
      | (go_at_call 60; refine i2.mono ?_; rintro e w1 ⟨rfl, h1, h2⟩; have h1 := h1.yes; have d0 := h1.c0; have i3 := wRising_any base b v s.1 _ l hb hl w1 (HU.out.slcI HS.out (But.bl' HY.out h2)) (HU.out.apart h1) h1.wri h1.base HM.out; have H1 := hid h1; have H2 := hid h2; clear h1 h2)
      | (go_at_call 166; refine i3.mono ?_; intro e w2 p; obtain ⟨hr, hl⟩ := Lo.mk' H2.out H1.out p; subst hr; have HL := hid hl; clear hl p))
    go_ret
    exact ⟨rfl, HL.out⟩
end Msg
end Go.Proofs.YtmhgdcfmfcjagaaGreatDoor

namespace Go.Proofs.YtmhgdcfmfcjagaaGreatDoor
open Go.RowKit Cod
namespace Msg

-- sizes: the bound is asked only where they are laid down
set_option maxRecDepth 100000 in
set_option maxHeartbeats 400000 in
theorem laySizes_all {base b c : Nat} {v : Value} {s : LS} (u : Value) (l : List Int) (many : Int) (hb : ∀ c ∈ l, -9223372036854775808 ≤ c ∧ c ≤ 9223372036854775807) (hl : l.length ≤ maxLen) (w : World) (hs : SlcI w u l) (hu : Lw base u) (h : Ly w base b c v s) (hm : arSz l many = true → ∀ bs, s.1 = .ok bs → bs.length + (wrRising (l.map Int.toNat)).length ≤ 140737488355328) :
    Calls Tryz.prog 156 #[.pointer (some ⟨c, 0, none⟩), u, .int .i64 many] w fun e w' => e = .returned u ∧ Lo w base b c v (lSizes l many s) w' := by
  have i1 := areSizes_any u l many hl w hs
  have i2 := takes_any (arSz l many) w h
  obtain ⟨a, cap, hu1, hs1⟩ := hs
  subst hu1
  have hs : SlcI w (.slice a l.length cap) l := ⟨a, cap, rfl, hs1⟩
  clear hs1
  cases hw : arSz l many with
  | false =>
    rw [hw] at i1 i2
    rw [lSizes, lif_no hw]
    clear h hm hs
    go_enter Tryz.func156, Tryz.ntmps156
    go_wp2_with (first
      | (go_at_call 165; refine i1.mono ?_; rintro e w' ⟨rfl, hw'⟩; rw [hw']; clear hw' w')
      | (go_at_call 60; refine i2.mono ?_; rintro e w1 ⟨rfl, h1, h2⟩; have H1 := hid (Lo.no h2 h1); clear h1 h2))
    go_ret
    exact ⟨rfl, H1.out⟩
  | true =>
    rw [hw] at i1 i2
    rw [lSizes, lif_yes hw]
    have HM := hid (hm hw)
    have HS := hid hs
    have HU := hid hu
    have HY := hid h
    clear h hm hs hu hw
    go_enter Tryz.func156, Tryz.ntmps156
    go_wp2_with (first
      | (go_at_call 165; refine i1.mono ?_; rintro e w' ⟨rfl, hw'⟩; rw [hw']; clear hw' w')
      | (go_at_call 60; refine i2.mono ?_; rintro e w1 ⟨rfl, h1, h2⟩; have h1 := h1.yes; have d0 := h1.c0; have i3 := wRising_any base b v s.1 _ l hb hl w1 (HU.out.slcI HS.out (But.bl' HY.out h2)) (HU.out.apart h1) h1.wri h1.base HM.out; have H1 := hid h1; have H2 := hid h2; clear h1 h2)
      | (go_at_call 166; refine i3.mono ?_; intro e w2 p; obtain ⟨hr, hl⟩ := Lo.mk' H2.out H1.out p; subst hr; have HL := hid hl; clear hl p))
    go_ret
    exact ⟨rfl, HL.out⟩
end Msg
end Go.Proofs.YtmhgdcfmfcjagaaGreatDoor

namespace Go.Proofs.YtmhgdcfmfcjagaaGreatDoor
open Go.RowKit Cod

set_option maxRecDepth 100000 in
set_option maxHeartbeats 1000000 in
theorem wTexts_all (base b : Nat) (v : Value) (st : WSt) (u : Value) (ps : List (List UInt8)) (many most : Int) (hl : ps.length ≤ maxLen) (w : World) (hs : Slc w u ps) (hap : Apart u (WS b v))
    (hW : Wri w base b v st) (hbase : base ≤ w.heap.size) (hlen : textsErr ps many most = 0 → ∀ bs, st = .ok bs → bs.length + (wrTexts ps).length ≤ 140737488355328) :
    Calls Tryz.prog 167 #[.pointer (some ⟨b, 0, none⟩), u, .int .i64 many, .int .i64 most] w (WPost w base b v (st.put (textsErr ps many most) (wrTexts ps))) := by
  have HW := hid hW
  have HS := hid hs
  have HA := hid hap
  clear hap
  obtain ⟨a, cap, rfl, _⟩ := hs
  go_enter Tryz.func167, Tryz.ntmps167
  cases st with
  | bad f =>
    clear hW
    go_wp2_with (first
      | (go_at_call 172; refine (textsFault_any _ ps many most hl _ HS.out).mono ?_; rintro e w' ⟨rfl, hw'⟩; rw [hw']; clear hw' w')
      | (go_at_call 160; refine (takes_bad _ HW.out).mono ?_; rintro e w' ⟨rfl, hw'⟩; rw [hw']; clear hw' w'))
    go_end0
    exact ⟨rfl, v, HW.out, Keep.refl _ _, From.refl _ _⟩
  | ok bs =>
    by_cases he : textsErr ps many most = 0
    · have hp : WSt.put (.ok bs) (textsErr ps many most) (wrTexts ps) = .ok (bs ++ wrTexts ps) := by rw [WSt.put, if_pos he]
      rw [hp]
      have HL := hid (hlen he bs rfl)
      obtain ⟨c0, f0⟩ := wri_cells hW (Keep.refl _ w)
      have hll : (ps.length : Int) ≤ 9223372036854775807 := by unfold maxLen at hl; omega
      have hd0 : bs.length + (digs ps.length).length ≤ 140737488355328 := by
        have := HL.out
        rw [wrTexts, List.length_append] at this
        omega
      clear hp hW hlen
      go_wp2_with (first
        | (go_at_call 172; refine (textsFault_any _ ps many most hl _ HS.out).mono ?_; rw [he]; rintro e w' ⟨rfl, hw'⟩; rw [hw']; clear hw' w')
        | (go_at_call 160; refine (takes_yes _ HW.out rfl).mono ?_; rintro e w' ⟨rfl, hw'⟩; rw [hw']; clear hw' w')
        | (go_at_call 116; fail))
      go_at_call 116
      refine (appendNum_any base v bs ps.length w (by omega) HW.out.2.2.1 hd0 hbase).mono ?_
      rintro e w2 ⟨v2, rfl, g2, g3, g4⟩
      obtain ⟨a2, n2, k2, rfl⟩ := Own.sl g2
      obtain ⟨c2, f2⟩ := wri_cells HW.out g3
      have W1 := hid ((Wrt.start HW.out).store g2 g3 g4)
      clear g2 g3 g4
      go_wp2
      go_loopw [29] (fun i w' => ∃ (k : Nat) (v' : Value) (bs' : List UInt8), k ≤ ps.length ∧ i = .int .i64 k ∧ Hid (Wrt w base b v w' v' bs') ∧ Hid (bs' ++ ((ps.drop k).map wrText).flatten = bs ++ wrTexts ps)) (fun i _ => ps.length - (intOf i).toNat)
      case atStart => exact ⟨0, _, _, by omega, rfl, W1, by show _ = _; rw [List.drop_zero, wrTexts, List.append_assoc]⟩
      case round =>
        obtain ⟨k, v', bs', hk, rfl, hw, hbb⟩ := hrel
        by_cases hlt : k < ps.length
        · have hlt' : (k : Int) < (ps.length : Int) := by omega
          obtain ⟨a', cap', hu, hcs⟩ := (HS.out.keep hw.out.keep HA.out)
          cases hu
          obtain ⟨x, hx, hxb, hc⟩ := hcs k _ (List.getElem?_eq_getElem hlt)
          subst hx
          have hb2 := hbb.out
          rw [List.drop_eq_getElem_cons hlt, texts_cons] at hb2
          generalize ps[k] = p at *
          have hdl : bs'.length + (wrText p).length ≤ 140737488355328 := by
            have := congrArg List.length hb2
            have h2 := HL.out
            simp only [List.length_append] at this h2
            omega
          rw [sv] at hc
          have hd := sv_data p
          have hz := sv_size p
          generalize ByteArray.mk p.toArray = s at *
          subst hd
          have hps : s.size ≤ 140737488355328 := by
            rw [wrText, List.length_append, data_length] at hdl
            omega
          have HB2 := hid hb2
          have HDL := hid hdl
          have hbw := hw.out.base hbase
          obtain ⟨c0', f0'⟩ := wri_cells hw.out.wri (Keep.refl _ wr)
          clear hb2 hcs c0 f0 c2 f2 he hdl hz
          go_wp2_with (go_at_call 95; fail)
          go_at_call 95
          refine (appendText_any base v' bs' s wr hps hw.out.wri.2.2.1 HDL.out hbw).mono ?_
          rintro e w3 ⟨v3, rfl, g2, g3, g4⟩
          obtain ⟨a3, n3, k3, rfl⟩ := Own.sl g2
          obtain ⟨c3, f3⟩ := wri_cells hw.out.wri g3
          have W3 := hid (hw.out.store g2 g3 g4)
          clear g2 g3 g4
          go_wp2
          refine ⟨⟨k + 1, _, _, by omega, by go_num, W3, ?_⟩, by simp [intOf]; omega⟩
          show _ = _
          rw [List.append_assoc]; exact HB2.out
        · obtain rfl : k = ps.length := by omega
          have e := hbb.out
          rw [List.drop_length, List.map_nil, List.flatten_nil, List.append_nil] at e
          subst e
          go_wp2
          go_end0
          exact hw.out.post
    · have hp : WSt.put (.ok bs) (textsErr ps many most) (wrTexts ps) = .bad (textsErr ps many most) := by rw [WSt.put, if_neg he]
      rw [hp]
      clear hW hp
      go_wp2_with (first
        | (go_at_call 172; refine (textsFault_any _ ps many most hl _ HS.out).mono ?_; rintro e w' ⟨rfl, hw'⟩; rw [hw']; clear hw' w')
        | (go_at_call 160; refine (takes_no _ HW.out he).mono ?_; rintro e w1 ⟨rfl, k1, k2⟩; have K1 := hid k1; have K2 := hid k2; clear k1 k2))
      go_end0
      exact ⟨rfl, _, K1.out, Keep.ofBut K2.out (.inl rfl), fun k hk => by cases hk⟩

set_option maxRecDepth 100000 in
set_option maxHeartbeats 1000000 in
theorem wHashes_all (base b : Nat) (v : Value) (st : WSt) (u : Value) (ps : List (List UInt8)) (many : Int) (hl : ps.length ≤ maxLen) (w : World) (hs : Slc w u ps) (hap : Apart u (WS b v))
    (hW : Wri w base b v st) (hbase : base ≤ w.heap.size) (hlen : hashesErr ps many = 0 → ∀ bs, st = .ok bs → bs.length + (wrHashes ps).length ≤ 140737488355328) :
    Calls Tryz.prog 159 #[.pointer (some ⟨b, 0, none⟩), u, .int .i64 many] w (WPost w base b v (st.put (hashesErr ps many) (wrHashes ps))) := by
  have HW := hid hW
  have HS := hid hs
  have HA := hid hap
  clear hap
  obtain ⟨a, cap, rfl, _⟩ := hs
  go_enter Tryz.func159, Tryz.ntmps159
  cases st with
  | bad f =>
    clear hW
    go_wp2_with (first
      | (go_at_call 169; refine (hashesFault_any _ ps many hl _ HS.out).mono ?_; rintro e w' ⟨rfl, hw'⟩; rw [hw']; clear hw' w')
      | (go_at_call 160; refine (takes_bad _ HW.out).mono ?_; rintro e w' ⟨rfl, hw'⟩; rw [hw']; clear hw' w'))
    go_end0
    exact ⟨rfl, v, HW.out, Keep.refl _ _, From.refl _ _⟩
  | ok bs =>
    by_cases he : hashesErr ps many = 0
    · have hp : WSt.put (.ok bs) (hashesErr ps many) (wrHashes ps) = .ok (bs ++ wrHashes ps) := by rw [WSt.put, if_pos he]
      rw [hp]
      have HL := hid (hlen he bs rfl)
      obtain ⟨c0, f0⟩ := wri_cells hW (Keep.refl _ w)
      have hll : (ps.length : Int) ≤ 9223372036854775807 := by unfold maxLen at hl; omega
      have hd0 : bs.length + (digs ps.length).length ≤ 140737488355328 := by
        have := HL.out
        rw [wrHashes, List.length_append] at this
        omega
      clear hp hW hlen
      go_wp2_with (first
        | (go_at_call 169; refine (hashesFault_any _ ps many hl _ HS.out).mono ?_; rw [he]; rintro e w' ⟨rfl, hw'⟩; rw [hw']; clear hw' w')
        | (go_at_call 160; refine (takes_yes _ HW.out rfl).mono ?_; rintro e w' ⟨rfl, hw'⟩; rw [hw']; clear hw' w')
        | (go_at_call 116; fail))
      go_at_call 116
      refine (appendNum_any base v bs ps.length w (by omega) HW.out.2.2.1 hd0 hbase).mono ?_
      rintro e w2 ⟨v2, rfl, g2, g3, g4⟩
      obtain ⟨a2, n2, k2, rfl⟩ := Own.sl g2
      obtain ⟨c2, f2⟩ := wri_cells HW.out g3
      have W1 := hid ((Wrt.start HW.out).store g2 g3 g4)
      clear g2 g3 g4
      go_wp2
      go_loopw [26] (fun i w' => ∃ (k : Nat) (v' : Value) (bs' : List UInt8), k ≤ ps.length ∧ i = .int .i64 k ∧ Hid (Wrt w base b v w' v' bs') ∧ Hid (bs' ++ (ps.drop k).flatten = bs ++ wrHashes ps)) (fun i _ => ps.length - (intOf i).toNat)
      case atStart => exact ⟨0, _, _, by omega, rfl, W1, by show _ = _; rw [List.drop_zero, wrHashes, List.append_assoc]⟩
      case round =>
        obtain ⟨k, v', bs', hk, rfl, hw, hbb⟩ := hrel
        by_cases hlt : k < ps.length
        · have hlt' : (k : Int) < (ps.length : Int) := by omega
          obtain ⟨a', cap', hu, hcs⟩ := (HS.out.keep hw.out.keep HA.out)
          cases hu
          obtain ⟨x, hx, hxb, hc⟩ := hcs k _ (List.getElem?_eq_getElem hlt)
          subst hx
          have hb2 := hbb.out
          rw [List.drop_eq_getElem_cons hlt, List.flatten_cons] at hb2
          generalize ps[k] = p at *
          have hdl : bs'.length + p.length ≤ 140737488355328 := by
            have := congrArg List.length hb2
            have h2 := HL.out
            simp only [List.length_append] at this h2
            omega
          rw [sv] at hc
          have hd := sv_data p
          have hz := sv_size p
          generalize ByteArray.mk p.toArray = s at *
          subst hd
          have HB2 := hid hb2
          have hbw := hw.out.base hbase
          obtain ⟨c0', f0'⟩ := wri_cells hw.out.wri (Keep.refl _ wr)
          obtain ⟨v3, w3, hcc, g2, g3, g4⟩ := appS wr base v' bs' s hw.out.wri.2.2.1 (by rw [data_length] at hdl; exact hdl) hbw
          obtain ⟨a3, n3, k3, rfl⟩ := Own.sl g2
          obtain ⟨c3, f3⟩ := wri_cells hw.out.wri g3
          have W3 := hid (hw.out.store g2 g3 g4)
          clear g2 g3 g4 hb2 hcs c0 f0 c2 f2 he hdl hz
          go_wp2_with (at_builtin; go_must (refine Lib.wpList_append_run _ rfl _ _ 91 9 rfl _ _ rfl rfl _ _ hcc ?_))
          refine ⟨⟨k + 1, _, _, by omega, by go_num, W3, ?_⟩, by simp [intOf]; omega⟩
          show _ = _
          rw [List.append_assoc]; exact HB2.out
        · obtain rfl : k = ps.length := by omega
          have e := hbb.out
          rw [List.drop_length, List.flatten_nil, List.append_nil] at e
          subst e
          go_wp2
          go_end0
          exact hw.out.post
    · have hp : WSt.put (.ok bs) (hashesErr ps many) (wrHashes ps) = .bad (hashesErr ps many) := by rw [WSt.put, if_neg he]
      rw [hp]
      clear hW hp
      go_wp2_with (first
        | (go_at_call 169; refine (hashesFault_any _ ps many hl _ HS.out).mono ?_; rintro e w' ⟨rfl, hw'⟩; rw [hw']; clear hw' w')
        | (go_at_call 160; refine (takes_no _ HW.out he).mono ?_; rintro e w1 ⟨rfl, k1, k2⟩; have K1 := hid k1; have K2 := hid k2; clear k1 k2))
      go_end0
      exact ⟨rfl, _, K1.out, Keep.ofBut K2.out (.inl rfl), fun k hk => by cases hk⟩
end Go.Proofs.YtmhgdcfmfcjagaaGreatDoor

namespace Go.Proofs.YtmhgdcfmfcjagaaGreatDoor
open Go.RowKit Cod
namespace Msg

theorem wrTexts_len {ps : List (List UInt8)} (hn : ps.length ≤ 4096) (hp : ∀ p ∈ ps, p.length ≤ 4096) : (wrTexts ps).length ≤ 68719476736 := by
  have h9 : (digs ps.length).length ≤ 9 := digs_len9 (by omega)
  have key : ∀ qs : List (List UInt8), (∀ p ∈ qs, p.length ≤ 4096) → ((qs.map wrText).flatten).length ≤ qs.length * 4105 := fun qs => by
    induction qs with
    | nil => intro _; simp
    | cons q qs ih =>
      intro h
      have h1 := ih (fun p hp => h p (by simp [hp]))
      have h2 : q.length ≤ 4096 := h q (by simp)
      have h3 : (digs q.length).length ≤ 9 := digs_len9 (by omega)
      rw [List.map_cons, List.flatten_cons, List.length_append, wrText, List.length_append, List.length_cons]
      omega
  have := key ps hp
  rw [wrTexts, List.length_append]
  have := Nat.mul_le_mul_right 4105 hn
  omega
theorem texts_fit {ps : List (List UInt8)} {many most : Int} (h : textsErr ps many most = 0) (hm : many ≤ 4096) (ho : most ≤ 4096) : (wrTexts ps).length ≤ 68719476736 := by
  rw [textsErr] at h
  split at h
  · cases h
  split at h
  · cases h
  split at h
  · rename_i a1 a2 a3
    exact wrTexts_len (by omega) (fun p hp => by have := a3 p hp; omega)
  · cases h
theorem wrRise_len : ∀ (l : List Nat) (least : Nat), (∀ n ∈ l, n ≤ 9223372036854775807) → (wrRise least l).length ≤ l.length * 10
  | [], _, _ => Nat.zero_le _
  | n :: l, least, h => by
    have h1 := wrRise_len l (n + 1) (fun m hm => h m (by simp [hm]))
    have h2 : (digs (n - least)).length ≤ 9 + 1 := digs_len 9 (n - least) (by have := h n (by simp); have e : 128 ^ (9 + 1) = 1180591620717411303424 := (by decide); omega)
    rw [wrRise_cons, List.length_append, List.length_cons]
    omega
theorem rising_fit {l : List Int} {many : Int} (hl : ∀ c ∈ l, -9223372036854775808 ≤ c ∧ c ≤ 9223372036854775807) (h : arSz l many = true) (hm : many ≤ 4096) : (wrRising (l.map Int.toNat)).length ≤ 68719476736 := by
  rw [arSz, Bool.and_eq_true] at h
  have hw := (wi_iff.1 h.1).2
  have h9 : (digs (l.map Int.toNat).length).length ≤ 9 := digs_len9 (by rw [List.length_map]; omega)
  have := wrRise_len (l.map Int.toNat) 0 (fun n hn => by
    obtain ⟨c, hc, rfl⟩ := List.mem_map.1 hn
    have := (hl c hc).2
    omega)
  rw [List.length_map] at this
  rw [wrRising, List.length_append]
  omega
theorem hashes_fit {ps : List (List UInt8)} (h : hashesErr ps 32768 = 0) : (wrHashes ps).length ≤ 68719476736 := by
  rw [hashesErr] at h
  split at h
  · cases h
  split at h
  · cases h
  split at h
  · rename_i a1 a2 a3
    have h9 : (digs ps.length).length ≤ 9 := digs_len9 (by omega)
    have key : ∀ qs : List (List UInt8), (∀ p ∈ qs, p.length = 32) → qs.flatten.length = qs.length * 32 := fun qs => by
      induction qs with
      | nil => intro _; simp
      | cons q qs ih =>
        intro h
        have h1 := ih (fun p hp => h p (by simp [hp]))
        have h2 : q.length = 32 := h q (by simp)
        rw [List.flatten_cons, List.length_append, List.length_cons]
        omega
    have := key ps a3
    rw [wrHashes, List.length_append]
    omega
  · cases h
set_option maxRecDepth 100000 in
set_option maxHeartbeats 400000 in
theorem layHashes_all {base b c : Nat} {v : Value} {s : LS} (u : Value) (ps : List (List UInt8)) (hl : ps.length ≤ maxLen) (w : World) (hs : Slc w u ps) (hu : Lw base u) (h : Ly w base b c v s) (hm : hashesErr ps 32768 = 0 → ∀ bs, s.1 = .ok bs → bs.length + (wrHashes ps).length ≤ 140737488355328) :
    Calls Tryz.prog 151 #[.pointer (some ⟨c, 0, none⟩), u] w fun e w' => e = .returned u ∧ Lo w base b c v (lHashes ps s) w' := by
  have d0 := h.c0
  have i3 := wHashes_all base b v s.1 u ps 32768 hl w hs (hu.apart h) h.wri h.base hm
  rw [lHashes, lif_yes rfl]
  obtain ⟨a, cap, rfl, _⟩ := hs
  have H1 := hid h
  clear h hm hu
  go_enter Tryz.func151, Tryz.ntmps151
  go_wp2_with (go_at_call 159; refine i3.mono ?_; intro e w2 p; obtain ⟨hr, hl⟩ := H1.out.wrote p; subst hr; have HL := hid hl; clear hl p)
  go_ret
  exact ⟨rfl, HL.out⟩
set_option maxRecDepth 100000 in
set_option maxHeartbeats 400000 in
theorem layTexts_all {base b c : Nat} {v : Value} {s : LS} (u : Value) (ps : List (List UInt8)) (least many most : Int) (hl : ps.length ≤ maxLen) (w : World) (hs : Slc w u ps) (hu : Lw base u) (h : Ly w base b c v s) (hm : textsErr ps many most = 0 → ∀ bs, s.1 = .ok bs → bs.length + (wrTexts ps).length ≤ 140737488355328) :
    Calls Tryz.prog 157 #[.pointer (some ⟨c, 0, none⟩), u, .int .i64 least, .int .i64 many, .int .i64 most] w fun e w' => e = .returned u ∧ Lo w base b c v (lTexts ps least many most s) w' := by
  obtain ⟨a, cap, hu1, hs1⟩ := hs
  subst hu1
  have hs : Slc w (.slice a ps.length cap) ps := ⟨a, cap, rfl, hs1⟩
  by_cases hg : least ≤ (ps.length : Int)
  · have hw : decide (least ≤ (ps.length : Int)) = true := decide_eq_true hg
    have i2 := takes_any true w h
    rw [lTexts, lif_yes hw]
    have HM := hid hm
    have HS := hid hs
    have HU := hid hu
    have HY := hid h
    clear h hm hs hs1 hu hw
    go_enter Tryz.func157, Tryz.ntmps157
    go_wp2_with (first
      | (go_at_call 60; refine i2.mono ?_; rintro e w1 ⟨rfl, h1, h2⟩; have h1 := h1.yes; have d0 := h1.c0; have i3 := wTexts_all base b v s.1 _ ps many most hl w1 (HU.out.slc HS.out (But.bl' HY.out h2)) (HU.out.apart h1) h1.wri h1.base HM.out; have H1 := hid h1; have H2 := hid h2; clear h1 h2)
      | (go_at_call 167; refine i3.mono ?_; intro e w2 p; obtain ⟨hr, hl⟩ := Lo.mk' H2.out H1.out p; subst hr; have HL := hid hl; clear hl p))
    go_ret
    exact ⟨rfl, HL.out⟩
  · have hw : decide (least ≤ (ps.length : Int)) = false := decide_eq_false hg
    have i2 := takes_any false w h
    rw [lTexts, lif_no hw]
    clear h hm hs hs1 hu hw
    go_enter Tryz.func157, Tryz.ntmps157
    go_wp2_with (go_at_call 60; refine i2.mono ?_; rintro e w1 ⟨rfl, h1, h2⟩; have H1 := hid (Lo.no h2 h1); clear h1 h2)
    go_ret
    exact ⟨rfl, H1.out⟩
end Msg
end Go.Proofs.YtmhgdcfmfcjagaaGreatDoor
