import Derived.Test.YtmhgdcfmfcjagaaGreatDoorPkF1
namespace Go.Proofs.YtmhgdcfmfcjagaaGreatDoor
open Go.RowKit Cod
def WPost (w : World) (base b : Nat) (v : Value) (st : WSt) (r : Ending) (w' : World) : Prop :=
  r = .returned (.tuple #[]) ∧ ∃ v', Wri w' base b v' st ∧ Keep (WS b v) w w' ∧ From w v v'
theorem wri_store {w w2 : World} {base b : Nat} {v v2 : Value} {bs bs2 : List UInt8} (hW : Wri w base b v (.ok bs)) (h2 : OwnB w2 base v2 bs2) (h3 : Keep (OwnS v) w w2) (h4 : From w v v2) :
    Wri (w2.setCell ⟨b, 0, none⟩ v2) base b v2 (.ok bs2) ∧ Keep (WS b v) w (w2.setCell ⟨b, 0, none⟩ v2) := by
  have hl := hW.lt
  have hne : v2.ownBlock ≠ some b := fun e => by
    rcases h4 b e with h | h
    · exact hW.2.2.2 h
    · omega
  have hrow : w2.heap[b]? = some (.cells #[v, .nilIface] 95 (0, 0)) := (h3.block b hl (fun e => hW.2.2.2 e)).trans hW.2.1
  refine ⟨⟨hW.1, row2_set0 hrow, h2.but ((But.refl b w2).setCell 0 v2) hne, hne⟩, ?_⟩
  exact (h3.mono (T := WS b v) (fun _ _ e => .inr e)).setCell b 0 v2 (.inl rfl)
theorem wri_cells {w w2 : World} {base b : Nat} {v : Value} {bs : List UInt8} (hW : Wri w base b v (.ok bs)) (h3 : Keep (OwnS v) w w2) :
    w2.cell? ⟨b, 0, none⟩ = some v ∧ w2.frozen? ⟨b, 0, none⟩ = false := by
  have hrow : w2.heap[b]? = some (.cells #[v, .nilIface] 95 (0, 0)) := (h3.block b hW.lt (fun e => hW.2.2.2 e)).trans hW.2.1
  exact ⟨by rw [cell_of_row _ _ _ _ _ _ hrow]; rfl, frozen_of_row _ _ _ _ _ hrow⟩
theorem Own.sl {w : World} {base : Nat} {v : Value} {cs : List Value} (h : Own w base v cs) : ∃ a n c, v = .slice a n c := by
  obtain ⟨a, c, h⟩ := h.shape
  exact ⟨a, _, c, h⟩
set_option maxRecDepth 100000 in
set_option maxHeartbeats 400000 in
theorem appendText_any (base : Nat) (v : Value) (bs : List UInt8) (s : ByteArray) (w : World) (hs : s.size ≤ 140737488355328) (hown : OwnB w base v bs) (hlen : bs.length + (wrText s.data.toList).length ≤ 140737488355328) (hbase : base ≤ w.heap.size) :
    Calls Tryz.prog 95 #[v, .string s] w fun e w' => ∃ v', e = .returned v' ∧ OwnB w' base v' (bs ++ wrText s.data.toList) ∧ Keep (OwnS v) w w' ∧ From w v v' := by
  rw [wrText, List.length_append, data_length] at hlen
  have hsz : (s.size : Int) ≤ 9223372036854775807 := by omega
  have Hown := hid hown
  clear hown
  go_enter Tryz.func95, Tryz.ntmps95
  go_wp2_with (go_at_call 116; fail)
  go_at_call 116
  refine (appendNum_any base v bs s.size w (by omega) Hown.out (by omega) hbase).mono ?_
  rintro e w1 ⟨v1, rfl, h1, h2, h3⟩
  obtain ⟨v2, w2, hc, g1, g2, g3⟩ := appS w1 base v1 _ s h1 (by rw [List.length_append]; omega) (Nat.le_trans hbase h2.size)
  have H1 := hid g1
  have H2 := hid (h2.own_trans g2 h3)
  have H3 := hid (h3.trans g3 h2.size)
  clear g1 g2 g3 h1 h2 h3
  go_wp2_with (at_builtin; go_must (refine Lib.wpList_append_run _ rfl _ _ 91 9 rfl _ _ rfl rfl _ _ hc ?_))
  go_ret
  refine ⟨_, rfl, ?_, H2.out, H3.out⟩
  rw [wrText, data_length, ← List.append_assoc]; exact H1.out
set_option maxRecDepth 100000 in
theorem newWriter_any (w : World) :
    Calls Tryz.prog 29 #[] w fun r w' => r = .returned (.pointer (some ⟨w.heap.size, 0, none⟩)) ∧ Wri w' w.heap.size w.heap.size (.slice none 0 0) (.ok []) ∧ Below w.heap.size w w' ∧ w'.heap.size = w.heap.size + 1 := by
  go_enter Tryz.func29, Tryz.ntmps29
  go_wp2
  go_ret
  exact ⟨rfl, ⟨Nat.le_refl _, heap_alloc_new w _, Own.nil _ _, by simp [Value.ownBlock]⟩, (Below.refl _ _).alloc (Nat.le_refl _) _, size_alloc _ _⟩
set_option maxRecDepth 100000 in
set_option maxHeartbeats 400000 in
theorem wByte_any (base b : Nat) (v : Value) (st : WSt) (n : Int) (w : World) (hW : Wri w base b v st) (hbase : base ≤ w.heap.size) (hlen : ∀ bs, st = .ok bs → bs.length + 1 ≤ 140737488355328) :
    Calls Tryz.prog 148 #[.pointer (some ⟨b, 0, none⟩), .int .i64 n] w (WPost w base b v (st.put (byteErr n) [UInt8.ofNat n.toNat])) := by
  have HW := hid hW
  go_enter Tryz.func148, Tryz.ntmps148
  cases st with
  | bad f =>
    clear hW
    go_wp2_with (first
      | (go_at_call 161; refine (byteFault_any n _).mono ?_; rintro e w' ⟨rfl, hw'⟩; rw [hw']; clear hw' w')
      | (go_at_call 160; refine (takes_bad _ HW.out).mono ?_; rintro e w' ⟨rfl, hw'⟩; rw [hw']; clear hw' w'))
    go_end0
    exact ⟨rfl, v, HW.out, Keep.refl _ _, From.refl _ _⟩
  | ok bs =>
    by_cases he : byteErr n = 0
    · have hn : 0 ≤ n ∧ n ≤ 255 := by
        rw [byteErr] at he
        split at he
        · cases he
        · omega
      obtain ⟨hn0, hn1⟩ := hn
      have hx : n = ((UInt8.ofNat n.toNat).toNat : Int) := by simp; omega
      obtain ⟨c0, f0⟩ := wri_cells hW (Keep.refl _ w)
      obtain ⟨v2, w2, hc, h2, h3, h4⟩ := app1 w base v bs (UInt8.ofNat n.toNat) n hx hW.2.2.1 (hlen bs rfl) hbase
      obtain ⟨a2, n2, k2, rfl⟩ := Own.sl h2
      obtain ⟨c2, f2⟩ := wri_cells hW h3
      obtain ⟨g1, g2⟩ := wri_store hW h2 h3 h4
      have G1 := hid g1
      have G2 := hid g2
      have H4 := hid h4
      have hp : WSt.put (.ok bs) (byteErr n) [UInt8.ofNat n.toNat] = .ok (bs ++ [UInt8.ofNat n.toNat]) := by rw [WSt.put, if_pos he]
      rw [hp]
      clear g1 g2 h2 h3 h4 hW hp hx
      go_wp2_with (first
        | (go_at_call 161; refine (byteFault_any n _).mono ?_; rw [he]; rintro e w' ⟨rfl, hw'⟩; rw [hw']; clear hw' w')
        | (go_at_call 160; refine (takes_yes _ HW.out rfl).mono ?_; rintro e w' ⟨rfl, hw'⟩; rw [hw']; clear hw' w')
        | (at_builtin; go_must (refine Lib.wpList_append_run _ rfl _ _ 91 91 rfl _ _ rfl rfl _ _ hc ?_)))
      go_end0
      exact ⟨rfl, _, G1.out, G2.out, H4.out⟩
    · have hp : WSt.put (.ok bs) (byteErr n) [UInt8.ofNat n.toNat] = .bad (byteErr n) := by rw [WSt.put, if_neg he]
      rw [hp]
      clear hW hp
      go_wp2_with (first
        | (go_at_call 161; refine (byteFault_any n _).mono ?_; rintro e w' ⟨rfl, hw'⟩; rw [hw']; clear hw' w')
        | (go_at_call 160; refine (takes_no _ HW.out he).mono ?_; rintro e w1 ⟨rfl, k1, k2⟩; have K1 := hid k1; have K2 := hid k2; clear k1 k2))
      go_end0
      exact ⟨rfl, _, K1.out, Keep.ofBut K2.out (.inl rfl), fun k hk => by cases hk⟩
set_option maxRecDepth 100000 in
set_option maxHeartbeats 400000 in
theorem wNum_any (base b : Nat) (v : Value) (st : WSt) (n : Int) (h1 : -9223372036854775808 ≤ n) (h2 : n ≤ 9223372036854775807) (w : World) (hW : Wri w base b v st) (hbase : base ≤ w.heap.size) (hlen : ∀ bs, st = .ok bs → bs.length + 9 ≤ 140737488355328) :
    Calls Tryz.prog 158 #[.pointer (some ⟨b, 0, none⟩), .int .i64 n] w (WPost w base b v (st.put (numErr n) (digs n.toNat))) := by
  have HW := hid hW
  go_enter Tryz.func158, Tryz.ntmps158
  cases st with
  | bad f =>
    clear hW
    go_wp2_with (first
      | (go_at_call 168; refine (numFault_any n h1 h2 _).mono ?_; rintro e w' ⟨rfl, hw'⟩; rw [hw']; clear hw' w')
      | (go_at_call 160; refine (takes_bad _ HW.out).mono ?_; rintro e w' ⟨rfl, hw'⟩; rw [hw']; clear hw' w'))
    go_end0
    exact ⟨rfl, v, HW.out, Keep.refl _ _, From.refl _ _⟩
  | ok bs =>
    by_cases he : numErr n = 0
    · have hn : 0 ≤ n ∧ n ≤ 4611686018427387904 := by
        rw [numErr] at he
        split at he
        · cases he
        · omega
      obtain ⟨m, rfl⟩ := Int.eq_ofNat_of_zero_le hn.1
      have hm9 : (digs m).length ≤ 9 := digs_len9 (by omega)
      obtain ⟨c0, f0⟩ := wri_cells hW (Keep.refl _ w)
      have hp : WSt.put (.ok bs) (numErr (m : Int)) (digs (m : Int).toNat) = .ok (bs ++ digs m) := by rw [WSt.put, if_pos he, Int.toNat_natCast]
      rw [hp]
      have hl := hlen bs rfl
      clear hW hp
      go_wp2_with (first
        | (go_at_call 168; refine (numFault_any (m : Int) h1 h2 _).mono ?_; rw [he]; rintro e w' ⟨rfl, hw'⟩; rw [hw']; clear hw' w')
        | (go_at_call 160; refine (takes_yes _ HW.out rfl).mono ?_; rintro e w' ⟨rfl, hw'⟩; rw [hw']; clear hw' w')
        | (go_at_call 116; fail))
      go_at_call 116
      refine (appendNum_any base v bs m w (by omega) HW.out.2.2.1 (by omega) hbase).mono ?_
      rintro e w2 ⟨v2, rfl, g2, g3, g4⟩
      obtain ⟨a2, n2, k2, rfl⟩ := Own.sl g2
      obtain ⟨c2, f2⟩ := wri_cells HW.out g3
      obtain ⟨k1, k2⟩ := wri_store HW.out g2 g3 g4
      have G1 := hid k1
      have G2 := hid k2
      have H4 := hid g4
      clear k1 k2 g2 g3 g4
      go_wp2
      go_end0
      exact ⟨rfl, _, G1.out, G2.out, H4.out⟩
    · have hp : WSt.put (.ok bs) (numErr n) (digs n.toNat) = .bad (numErr n) := by rw [WSt.put, if_neg he]
      rw [hp]
      clear hW hp
      go_wp2_with (first
        | (go_at_call 168; refine (numFault_any n h1 h2 _).mono ?_; rintro e w' ⟨rfl, hw'⟩; rw [hw']; clear hw' w')
        | (go_at_call 160; refine (takes_no _ HW.out he).mono ?_; rintro e w1 ⟨rfl, k1, k2⟩; have K1 := hid k1; have K2 := hid k2; clear k1 k2))
      go_end0
      exact ⟨rfl, _, K1.out, Keep.ofBut K2.out (.inl rfl), fun k hk => by cases hk⟩
set_option maxRecDepth 100000 in
set_option maxHeartbeats 400000 in
theorem wRaw_any (base b : Nat) (v : Value) (st : WSt) (s : ByteArray) (w : World) (hW : Wri w base b v st) (hbase : base ≤ w.heap.size) (hlen : ∀ bs, st = .ok bs → bs.length + s.size ≤ 140737488355328) :
    Calls Tryz.prog 163 #[.pointer (some ⟨b, 0, none⟩), .string s] w (WPost w base b v (st.put 0 s.data.toList)) := by
  have HW := hid hW
  go_enter Tryz.func163, Tryz.ntmps163
  cases st with
  | bad f =>
    clear hW
    go_wp2_with (go_at_call 160; refine (takes_bad _ HW.out).mono ?_; rintro e w' ⟨rfl, hw'⟩; rw [hw']; clear hw' w')
    go_end0
    exact ⟨rfl, v, HW.out, Keep.refl _ _, From.refl _ _⟩
  | ok bs =>
    obtain ⟨c0, f0⟩ := wri_cells hW (Keep.refl _ w)
    obtain ⟨v2, w2, hc, h2, h3, h4⟩ := appS w base v bs s hW.2.2.1 (hlen bs rfl) hbase
    obtain ⟨a2, n2, k2, rfl⟩ := Own.sl h2
    obtain ⟨c2, f2⟩ := wri_cells hW h3
    obtain ⟨g1, g2⟩ := wri_store hW h2 h3 h4
    have G1 := hid g1
    have G2 := hid g2
    have H4 := hid h4
    have hp : WSt.put (.ok bs) 0 s.data.toList = .ok (bs ++ s.data.toList) := by rw [WSt.put, if_pos rfl]
    rw [hp]
    clear g1 g2 h2 h3 h4 hW hp
    go_wp2_with (first
      | (go_at_call 160; refine (takes_yes _ HW.out rfl).mono ?_; rintro e w' ⟨rfl, hw'⟩; rw [hw']; clear hw' w')
      | (at_builtin; go_must (refine Lib.wpList_append_run _ rfl _ _ 91 9 rfl _ _ rfl rfl _ _ hc ?_)))
    go_end0
    exact ⟨rfl, _, G1.out, G2.out, H4.out⟩
end Go.Proofs.YtmhgdcfmfcjagaaGreatDoor

namespace Go.Proofs.YtmhgdcfmfcjagaaGreatDoor
open Go.RowKit Cod
def Apart (v : Value) (S : Nat → Prop) : Prop := ∀ x n c, v = .slice (some x) n c → 0 < n → ¬ S x.block
theorem Slc.keep {S : Nat → Prop} {w w' : World} {v : Value} {ps : List (List UInt8)} (h : Slc w v ps) (hb : Keep S w w') (ha : Apart v S) : Slc w' v ps := by
  obtain ⟨a, cap, rfl, h⟩ := h
  refine ⟨a, cap, rfl, fun j p hp => ?_⟩
  obtain ⟨x, rfl, hx, hc⟩ := h j p hp
  refine ⟨x, rfl, Nat.lt_of_lt_of_le hx hb.size, ?_⟩
  rw [World.cell?_of_block (w := w) (by rw [add_block]; exact hb.block x.block hx (ha x _ _ rfl (by have := (List.getElem?_eq_some_iff.1 hp).1; omega)))]; exact hc
theorem SlcI.keep {S : Nat → Prop} {w w' : World} {v : Value} {ps : List Int} (h : SlcI w v ps) (hb : Keep S w w') (ha : Apart v S) : SlcI w' v ps := by
  obtain ⟨a, cap, rfl, h⟩ := h
  refine ⟨a, cap, rfl, fun j p hp => ?_⟩
  obtain ⟨x, rfl, hx, hc⟩ := h j p hp
  refine ⟨x, rfl, Nat.lt_of_lt_of_le hx hb.size, ?_⟩
  rw [World.cell?_of_block (w := w) (by rw [add_block]; exact hb.block x.block hx (ha x _ _ rfl (by have := (List.getElem?_eq_some_iff.1 hp).1; omega)))]; exact hc
def risesB (last : Int) : List Int → Bool
  | [] => true
  | n :: r => decide (0 ≤ n ∧ n ≤ 4611686018427387904 ∧ last < n) && risesB n r
def risingErr (l : List Int) : Int := if risesB (-1) l = true then 0 else 20
set_option maxRecDepth 100000 in
set_option maxHeartbeats 400000 in
theorem risingFault_any (v : Value) (l : List Int) (hb : ∀ c ∈ l, -9223372036854775808 ≤ c ∧ c ≤ 9223372036854775807) (hl : l.length ≤ maxLen) (w : World) (hs : SlcI w v l) :
    Calls Tryz.prog 171 #[v] w fun r w' => r = .returned (.int .i64 (risingErr l)) ∧ w' = w := by
  unfold maxLen at hl
  obtain ⟨a, cap, rfl, hs⟩ := hs
  have Hs := hid hs
  have Hb := hid hb
  clear hs hb
  obtain ⟨R, hR⟩ : ∃ R, Hid (risingErr l = R) := ⟨_, rfl⟩
  rw [hR.out]
  go_enter Tryz.func171, Tryz.ntmps171
  go_wp2
  go_loopw [3, 8] (fun la i w' => ∃ (k : Nat) (L : Int), k ≤ l.length ∧ i = .int .i64 k ∧ la = .int .i64 L ∧ Hid (risesB L (l.drop k) = risesB (-1) l) ∧ w' = w) (fun _ i _ => l.length - (intOf i).toNat)
  case atStart => exact ⟨0, -1, by omega, rfl, rfl, rfl, rfl⟩
  case round =>
    obtain ⟨k, L, hk, rfl, rfl, hr, rfl⟩ := hrel
    by_cases hlt : k < l.length
    · have hlt' : (k : Int) < (l.length : Int) := by omega
      obtain ⟨x, hx, hxb, hc⟩ := Hs.out k _ (List.getElem?_eq_getElem hlt)
      subst hx
      obtain ⟨h1, h2⟩ := Hb.out _ (List.getElem_mem hlt)
      have hr2 := hr.out
      rw [List.drop_eq_getElem_cons hlt, risesB] at hr2
      generalize l[k] = c at *
      by_cases hn : 0 ≤ c ∧ c ≤ 4611686018427387904
      · have e : decide (0 ≤ c ∧ c ≤ 4611686018427387904) = true := decide_eq_true hn
        by_cases hL : L < c
        · have hL' : ¬ c ≤ L := by omega
          have HR : Hid (risesB c (l.drop (k + 1)) = risesB (-1) l) := by
            show _ = _
            rw [← hr2, decide_eq_true ⟨hn.1, hn.2, hL⟩, Bool.true_and]
          clear hr2 hn
          go_wp2_with (go_at_call 130; refine (isNumber_any c h1 h2 _).mono ?_; rw [e]; rintro e w' ⟨rfl, hw'⟩; rw [hw']; clear hw' w')
          refine ⟨?_, by simp [intOf]; omega⟩
          exact ⟨k + 1, c, by omega, by go_num, rfl, HR, trivial⟩
        · have HR : R = 20 := by
            rw [← hR.out, risingErr, ← hr2, decide_eq_false (by omega), Bool.false_and]; rfl
          subst HR
          have hL' : c ≤ L := by omega
          clear hr2 hn
          go_wp2_with (go_at_call 130; refine (isNumber_any c h1 h2 _).mono ?_; rw [e]; rintro e w' ⟨rfl, hw'⟩; rw [hw']; clear hw' w')
          go_ret
          exact ⟨rfl, rfl⟩
      · have e : decide (0 ≤ c ∧ c ≤ 4611686018427387904) = false := decide_eq_false hn
        have HR : R = 20 := by
          rw [← hR.out, risingErr, ← hr2, decide_eq_false (by omega), Bool.false_and]; rfl
        subst HR
        clear hr2 hn
        go_wp2_with (go_at_call 130; refine (isNumber_any c h1 h2 _).mono ?_; rw [e]; rintro e w' ⟨rfl, hw'⟩; rw [hw']; clear hw' w')
        go_ret
        exact ⟨rfl, rfl⟩
    · obtain rfl : k = l.length := by omega
      have HR : R = 0 := by
        have := hr.out
        rw [List.drop_length, risesB] at this
        rw [← hR.out, risingErr, ← this]; rfl
      subst HR
      go_wp2
      go_ret
      exact ⟨rfl, rfl⟩
def textsErr (ps : List (List UInt8)) (many most : Int) : Int :=
  if many < 0 ∨ most < 0 then 1 else if many < (ps.length : Int) then 22 else if ∀ p ∈ ps, (p.length : Int) ≤ most then 0 else 22
def hashesErr (ps : List (List UInt8)) (many : Int) : Int :=
  if many < 0 then 1 else if many < (ps.length : Int) then 22 else if ∀ p ∈ ps, p.length = 32 then 0 else 20
theorem all_drop {α : Type} {q : α → Prop} {l : List α} {k : Nat} (h : k < l.length) (hk : (∀ p ∈ l.drop k, q p) ↔ ∀ p ∈ l, q p) (hq : q l[k]) : (∀ p ∈ l.drop (k + 1), q p) ↔ ∀ p ∈ l, q p := by
  refine ⟨fun e => hk.1 fun p hp => ?_, fun e p hp => e p (List.mem_of_mem_drop hp)⟩
  rw [List.drop_eq_getElem_cons h] at hp
  rcases List.mem_cons.1 hp with rfl | hp
  · exact hq
  · exact e p hp
theorem not_all_drop {α : Type} {q : α → Prop} {l : List α} {k : Nat} (h : k < l.length) (hq : ¬ q l[k]) : ¬ ∀ p ∈ l, q p := fun e => hq (e _ (List.getElem_mem h))
set_option maxRecDepth 100000 in
set_option maxHeartbeats 400000 in
theorem textsFault_any (v : Value) (ps : List (List UInt8)) (many most : Int) (hl : ps.length ≤ maxLen) (w : World) (hs : Slc w v ps) :
    Calls Tryz.prog 172 #[v, .int .i64 many, .int .i64 most] w fun r w' => r = .returned (.int .i64 (textsErr ps many most)) ∧ w' = w := by
  unfold maxLen at hl
  obtain ⟨a, cap, rfl, hs⟩ := hs
  have Hs := hid hs
  clear hs
  by_cases h1 : many < 0
  · rw [textsErr, if_pos (.inl h1)]
    go_enter Tryz.func172, Tryz.ntmps172
    go_wp2
    go_ret
    exact ⟨rfl, rfl⟩
  by_cases h2 : most < 0
  · rw [textsErr, if_pos (.inr h2)]
    go_enter Tryz.func172, Tryz.ntmps172
    go_wp2
    go_ret
    exact ⟨rfl, rfl⟩
  rw [textsErr, if_neg (by omega)]
  by_cases h3 : many < (ps.length : Int)
  · rw [if_pos h3]
    go_enter Tryz.func172, Tryz.ntmps172
    go_wp2
    go_ret
    exact ⟨rfl, rfl⟩
  rw [if_neg h3]
  obtain ⟨R, hR⟩ : ∃ R : Int, Hid ((if ∀ p ∈ ps, (p.length : Int) ≤ most then 0 else 22) = R) := ⟨_, rfl⟩
  rw [hR.out]
  go_enter Tryz.func172, Tryz.ntmps172
  go_wp2
  go_loopw [24] (fun i w' => ∃ (k : Nat), k ≤ ps.length ∧ i = .int .i64 k ∧ Hid ((∀ p ∈ ps.drop k, (p.length : Int) ≤ most) ↔ ∀ p ∈ ps, (p.length : Int) ≤ most) ∧ w' = w) (fun i _ => ps.length - (intOf i).toNat)
  case atStart => exact ⟨0, by omega, rfl, Iff.rfl, rfl⟩
  case round =>
    obtain ⟨k, hk, rfl, hr, rfl⟩ := hrel
    by_cases hlt : k < ps.length
    · have hlt' : (k : Int) < (ps.length : Int) := by omega
      obtain ⟨x, hx, hxb, hc⟩ := Hs.out k _ (List.getElem?_eq_getElem hlt)
      subst hx
      by_cases hp : (ps[k].length : Int) ≤ most
      · have HR := hid (all_drop hlt hr.out hp)
        have e : textErr (ByteArray.mk ps[k].toArray).size most = 0 := by rw [textErr, sv_size, if_neg (by omega), if_neg (by omega)]
        rw [sv] at hc
        generalize ps[k] = p at *
        generalize ByteArray.mk p.toArray = s at *
        clear hp
        go_wp2_with (go_at_call 94; refine (textFault_any s most _).mono ?_; rw [e]; rintro e w' ⟨rfl, hw'⟩; rw [hw']; clear hw' w')
        exact ⟨⟨k + 1, by omega, by go_num, HR, trivial⟩, by simp [intOf]; omega⟩
      · have HR : R = 22 := by rw [← hR.out, if_neg (not_all_drop (q := fun p : List UInt8 => (p.length : Int) ≤ most) hlt hp)]
        subst HR
        have e : textErr (ByteArray.mk ps[k].toArray).size most = 22 := by rw [textErr, sv_size, if_neg (by omega), if_pos (by omega)]
        rw [sv] at hc
        generalize ps[k] = p at *
        generalize ByteArray.mk p.toArray = s at *
        clear hp
        go_wp2_with (go_at_call 94; refine (textFault_any s most _).mono ?_; rw [e]; rintro e w' ⟨rfl, hw'⟩; rw [hw']; clear hw' w')
        go_ret
        exact ⟨rfl, rfl⟩
    · obtain rfl : k = ps.length := by omega
      have HR : R = 0 := by
        have := hr.out
        rw [List.drop_length] at this
        rw [← hR.out, if_pos (this.1 (by simp))]
      subst HR
      go_wp2
      go_ret
      exact ⟨rfl, rfl⟩
set_option maxRecDepth 100000 in
set_option maxHeartbeats 400000 in
theorem hashesFault_any (v : Value) (ps : List (List UInt8)) (many : Int) (hl : ps.length ≤ maxLen) (w : World) (hs : Slc w v ps) :
    Calls Tryz.prog 169 #[v, .int .i64 many] w fun r w' => r = .returned (.int .i64 (hashesErr ps many)) ∧ w' = w := by
  unfold maxLen at hl
  obtain ⟨a, cap, rfl, hs⟩ := hs
  have Hs := hid hs
  clear hs
  by_cases h1 : many < 0
  · rw [hashesErr, if_pos h1]
    go_enter Tryz.func169, Tryz.ntmps169
    go_wp2
    go_ret
    exact ⟨rfl, rfl⟩
  rw [hashesErr, if_neg h1]
  by_cases h3 : many < (ps.length : Int)
  · rw [if_pos h3]
    go_enter Tryz.func169, Tryz.ntmps169
    go_wp2
    go_ret
    exact ⟨rfl, rfl⟩
  rw [if_neg h3]
  obtain ⟨R, hR⟩ : ∃ R : Int, Hid ((if ∀ p ∈ ps, p.length = 32 then 0 else 20) = R) := ⟨_, rfl⟩
  rw [hR.out]
  go_enter Tryz.func169, Tryz.ntmps169
  go_wp2
  go_loopw [17] (fun i w' => ∃ (k : Nat), k ≤ ps.length ∧ i = .int .i64 k ∧ Hid ((∀ p ∈ ps.drop k, p.length = 32) ↔ ∀ p ∈ ps, p.length = 32) ∧ w' = w) (fun i _ => ps.length - (intOf i).toNat)
  case atStart => exact ⟨0, by omega, rfl, Iff.rfl, rfl⟩
  case round =>
    obtain ⟨k, hk, rfl, hr, rfl⟩ := hrel
    by_cases hlt : k < ps.length
    · have hlt' : (k : Int) < (ps.length : Int) := by omega
      obtain ⟨x, hx, hxb, hc⟩ := Hs.out k _ (List.getElem?_eq_getElem hlt)
      subst hx
      have hz := sv_size ps[k]
      by_cases hp : ps[k].length = 32
      · have HR := hid (all_drop hlt hr.out hp)
        rw [sv] at hc
        rw [hp] at hz
        generalize ps[k] = p at *
        generalize ByteArray.mk p.toArray = s at *
        clear hp
        have hz' : ((s.size : Int) == 32) = true := by simp [hz]
        go_wp2
        exact ⟨⟨k + 1, by omega, by go_num, HR, trivial⟩, by simp [intOf]; omega⟩
      · have HR : R = 20 := by rw [← hR.out, if_neg (not_all_drop (q := fun p : List UInt8 => p.length = 32) hlt hp)]
        subst HR
        rw [sv] at hc
        rw [← hz] at hp
        generalize ps[k] = p at *
        generalize ByteArray.mk p.toArray = s at *
        have hz' : ((s.size : Int) == 32) = false := by simp; omega
        go_wp2
        go_ret
        exact ⟨rfl, rfl⟩
    · obtain rfl : k = ps.length := by omega
      have HR : R = 0 := by
        have := hr.out
        rw [List.drop_length] at this
        rw [← hR.out, if_pos (this.1 (by simp))]
      subst HR
      go_wp2
      go_ret
      exact ⟨rfl, rfl⟩
end Go.Proofs.YtmhgdcfmfcjagaaGreatDoor

namespace Go.Proofs.YtmhgdcfmfcjagaaGreatDoor
open Go.RowKit Cod
theorem Keep.ws_trans {w w1 w2 : World} {b : Nat} {v v1 : Value} (h : Keep (WS b v) w w1) (k : Keep (WS b v1) w1 w2) (hf : From w v v1) : Keep (WS b v) w w2 :=
  h.trans k fun j hj e => by
    rcases e with rfl | e
    · exact .inl rfl
    · rcases hf j e with h1 | h1
      · exact .inr h1
      · omega
structure Wrt (w : World) (base b : Nat) (v : Value) (wr : World) (v' : Value) (bs : List UInt8) : Prop where
  wri : Wri wr base b v' (.ok bs)
  keep : Keep (WS b v) w wr
  src : From w v v'
theorem Wrt.start {w : World} {base b : Nat} {v : Value} {bs : List UInt8} (h : Wri w base b v (.ok bs)) : Wrt w base b v w v bs := ⟨h, Keep.refl _ _, From.refl _ _⟩
theorem Wrt.store {w wr w2 : World} {base b : Nat} {v v' v2 : Value} {bs bs2 : List UInt8} (h : Wrt w base b v wr v' bs) (h2 : OwnB w2 base v2 bs2) (h3 : Keep (OwnS v') wr w2) (h4 : From wr v' v2) :
    Wrt w base b v (w2.setCell ⟨b, 0, none⟩ v2) v2 bs2 := by
  obtain ⟨g1, g2⟩ := wri_store h.wri h2 h3 h4
  exact ⟨g1, h.keep.ws_trans g2 h.src, h.src.trans h4 h.keep.size⟩
theorem Wrt.post {w wr : World} {base b : Nat} {v v' : Value} {bs : List UInt8} (h : Wrt w base b v wr v' bs) : WPost w base b v (.ok bs) (.returned (.tuple #[])) wr := ⟨rfl, v', h.wri, h.keep, h.src⟩
theorem Wrt.base {w wr : World} {base b : Nat} {v v' : Value} {bs : List UInt8} (h : Wrt w base b v wr v' bs) (hb : base ≤ w.heap.size) : base ≤ wr.heap.size := Nat.le_trans hb h.keep.size
theorem wrRise_cons (least n : Nat) (l : List Nat) : wrRise least (n :: l) = digs (n - least) ++ wrRise (n + 1) l := rfl
set_option maxRecDepth 100000 in
set_option maxHeartbeats 1000000 in
theorem wRising_any (base b : Nat) (v : Value) (st : WSt) (u : Value) (l : List Int) (hb : ∀ c ∈ l, -9223372036854775808 ≤ c ∧ c ≤ 9223372036854775807) (hl : l.length ≤ maxLen) (w : World) (hs : SlcI w u l) (hap : Apart u (WS b v))
    (hW : Wri w base b v st) (hbase : base ≤ w.heap.size) (hlen : ∀ bs, st = .ok bs → bs.length + (wrRising (l.map Int.toNat)).length ≤ 140737488355328) :
    Calls Tryz.prog 166 #[.pointer (some ⟨b, 0, none⟩), u] w (WPost w base b v (st.put (risingErr l) (wrRising (l.map Int.toNat)))) := by
  have HW := hid hW
  have HS := hid hs
  have HB := hid hb
  have HA := hid hap
  clear hb hap
  obtain ⟨a, cap, rfl, _⟩ := hs
  go_enter Tryz.func166, Tryz.ntmps166
  cases st with
  | bad f =>
    clear hW
    go_wp2_with (first
      | (go_at_call 171; refine (risingFault_any _ l HB.out hl _ HS.out).mono ?_; rintro e w' ⟨rfl, hw'⟩; rw [hw']; clear hw' w')
      | (go_at_call 160; refine (takes_bad _ HW.out).mono ?_; rintro e w' ⟨rfl, hw'⟩; rw [hw']; clear hw' w'))
    go_end0
    exact ⟨rfl, v, HW.out, Keep.refl _ _, From.refl _ _⟩
  | ok bs =>
    by_cases he : risingErr l = 0
    · have hr : risesB (-1) l = true := by
        rw [risingErr] at he
        split at he
        · assumption
        · cases he
      have HR := hid hr
      have hp : WSt.put (.ok bs) (risingErr l) (wrRising (l.map Int.toNat)) = .ok (bs ++ wrRising (l.map Int.toNat)) := by rw [WSt.put, if_pos he]
      rw [hp]
      have HL := hid (hlen bs rfl)
      obtain ⟨c0, f0⟩ := wri_cells hW (Keep.refl _ w)
      have hll : (l.length : Int) ≤ 9223372036854775807 := by unfold maxLen at hl; omega
      have hd0 : bs.length + (digs l.length).length ≤ 140737488355328 := by
        have := HL.out
        rw [wrRising, List.length_append, List.length_map] at this
        omega
      clear hp hr hW hlen
      go_wp2_with (first
        | (go_at_call 171; refine (risingFault_any _ l HB.out hl _ HS.out).mono ?_; rw [he]; rintro e w' ⟨rfl, hw'⟩; rw [hw']; clear hw' w')
        | (go_at_call 160; refine (takes_yes _ HW.out rfl).mono ?_; rintro e w' ⟨rfl, hw'⟩; rw [hw']; clear hw' w')
        | (go_at_call 116; fail))
      go_at_call 116
      refine (appendNum_any base v bs l.length w (by omega) HW.out.2.2.1 hd0 hbase).mono ?_
      rintro e w2 ⟨v2, rfl, g2, g3, g4⟩
      obtain ⟨a2, n2, k2, rfl⟩ := Own.sl g2
      obtain ⟨c2, f2⟩ := wri_cells HW.out g3
      have W1 := hid ((Wrt.start HW.out).store g2 g3 g4)
      clear g2 g3 g4
      go_wp2
      go_loopw [4, 24] (fun le i w' => ∃ (k L : Nat) (v' : Value) (bs' : List UInt8), k ≤ l.length ∧ i = .int .i64 k ∧ le = .int .i64 (L : Int) ∧ L ≤ 4611686018427387905 ∧ Hid (Wrt w base b v w' v' bs') ∧ Hid (risesB ((L : Int) - 1) (l.drop k) = true) ∧
          Hid (bs' ++ wrRise L ((l.drop k).map Int.toNat) = bs ++ wrRising (l.map Int.toNat))) (fun _ i _ => l.length - (intOf i).toNat)
      case atStart => exact ⟨0, 0, _, _, by omega, rfl, rfl, by omega, W1, HR, by show _ = _; rw [List.drop_zero, wrRising, List.length_map, List.append_assoc]⟩
      case round =>
        obtain ⟨k, L, v', bs', hk, rfl, rfl, hL, hw, hr, hbb⟩ := hrel
        by_cases hlt : k < l.length
        · have hlt' : (k : Int) < (l.length : Int) := by omega
          obtain ⟨a', cap', hu, hcs⟩ := (HS.out.keep hw.out.keep HA.out)
          cases hu
          obtain ⟨x, hx, hxb, hc⟩ := hcs k _ (List.getElem?_eq_getElem hlt)
          subst hx
          have hr2 := hr.out
          have hb2 := hbb.out
          rw [List.drop_eq_getElem_cons hlt, risesB, Bool.and_eq_true, decide_eq_true_eq] at hr2
          rw [List.drop_eq_getElem_cons hlt, List.map_cons, wrRise_cons] at hb2
          generalize l[k] = c at *
          obtain ⟨⟨hc0, hc1, hc2⟩, hr3⟩ := hr2
          obtain ⟨m, rfl⟩ := Int.eq_ofNat_of_zero_le hc0
          rw [Int.toNat_natCast] at hb2
          have hd : (m : Int) - (L : Int) = ((m - L : Nat) : Int) := by omega
          have hdl : bs'.length + (digs (m - L)).length ≤ 140737488355328 := by
            have := congrArg List.length hb2
            have h2 := HL.out
            simp only [List.length_append] at this
            omega
          have hml : m - L ≤ 9223372036854775807 := by omega
          have b0 : 0 ≤ (m : Int) - (L : Int) := by omega
          have b1 : (m : Int) - (L : Int) ≤ 9223372036854775807 := by omega
          have b2 : (m : Int) + 1 ≤ 9223372036854775807 := by omega
          have HB2 := hid hb2
          have HR3 := hid hr3
          have hbw := hw.out.base hbase
          obtain ⟨c0', f0'⟩ := wri_cells hw.out.wri (Keep.refl _ wr)
          clear hb2 hr3 hcs c0 f0 c2 f2 he
          go_wp2_with (go_at_call 116; fail)
          go_at_call 116
          refine (appendNum_any base v' bs' (m - L) wr hml hw.out.wri.2.2.1 hdl hbw).mono ?_
          rintro e w3 ⟨v3, rfl, g2, g3, g4⟩
          obtain ⟨a3, n3, k3, rfl⟩ := Own.sl g2
          obtain ⟨c3, f3⟩ := wri_cells hw.out.wri g3
          have W3 := hid (hw.out.store g2 g3 g4)
          clear g2 g3 g4
          go_wp2
          refine ⟨⟨k + 1, m + 1, _, _, by omega, by go_num, by go_num, by omega, W3, ?_, ?_⟩, by simp [intOf]; omega⟩
          · show risesB _ _ = true
            rw [show ((m + 1 : Nat) : Int) - 1 = (m : Int) from by omega]; exact HR3.out
          · show _ = _
            rw [List.append_assoc]; exact HB2.out
        · obtain rfl : k = l.length := by omega
          have e := hbb.out
          rw [List.drop_length, List.map_nil, wrRise, List.append_nil] at e
          subst e
          go_wp2
          go_end0
          exact hw.out.post
    · have hp : WSt.put (.ok bs) (risingErr l) (wrRising (l.map Int.toNat)) = .bad (risingErr l) := by rw [WSt.put, if_neg he]
      rw [hp]
      clear hW hp
      go_wp2_with (first
        | (go_at_call 171; refine (risingFault_any _ l HB.out hl _ HS.out).mono ?_; rintro e w' ⟨rfl, hw'⟩; rw [hw']; clear hw' w')
        | (go_at_call 160; refine (takes_no _ HW.out he).mono ?_; rintro e w1 ⟨rfl, k1, k2⟩; have K1 := hid k1; have K2 := hid k2; clear k1 k2))
      go_end0
      exact ⟨rfl, _, K1.out, Keep.ofBut K2.out (.inl rfl), fun k hk => by cases hk⟩
theorem texts_cons (p : List UInt8) (ps : List (List UInt8)) : ((p :: ps).map wrText).flatten = wrText p ++ (ps.map wrText).flatten := rfl
end Go.Proofs.YtmhgdcfmfcjagaaGreatDoor
