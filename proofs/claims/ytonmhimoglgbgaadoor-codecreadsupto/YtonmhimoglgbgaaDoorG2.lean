import Derived.Test.YtonmhimoglgbgaaDoorG1
namespace Go.Proofs.YtonmhimoglgbgaaDoor
open Go.RowKit Cod

/-- what a call of a Writer leaves -/
def WPost (w : World) (base b : Nat) (v : Value) (st : WSt) (r : Ending) (w' : World) : Prop :=
  r = .returned (.tuple #[]) ∧ ∃ v', Wri w' base b v' st ∧ Keep (WS b v) w w' ∧ From w v v'
theorem wri_store {w w2 : World} {base b : Nat} {v v2 : Value} {bs bs2 : List UInt8} (hW : Wri w base b v (.ok bs)) (h2 : OwnB w2 base v2 bs2) (h3 : Keep (OwnS v) w w2) (h4 : From w v v2) :
    Wri (w2.setCell ⟨b, 0, none⟩ v2) base b v2 (.ok bs2) ∧ Keep (WS b v) w (w2.setCell ⟨b, 0, none⟩ v2) := by
  have hl := hW.lt
  have hne : v2.ownBlock ≠ some b := fun e => by
    rcases h4 b e with h | h
    · exact hW.2.2.2 h
    · omega
  have hrow : w2.heap[b]? = some (.cells #[v, .nilIface] 61 (0, 0)) := (h3.block b hl (fun e => hW.2.2.2 e)).trans hW.2.1
  refine ⟨⟨hW.1, row2_set0 hrow, h2.but ((But.refl b w2).setCell 0 v2) hne, hne⟩, ?_⟩
  exact (h3.mono (T := WS b v) (fun _ _ e => .inr e)).setCell b 0 v2 (.inl rfl)
theorem wri_cells {w w2 : World} {base b : Nat} {v : Value} {bs : List UInt8} (hW : Wri w base b v (.ok bs)) (h3 : Keep (OwnS v) w w2) :
    w2.cell? ⟨b, 0, none⟩ = some v ∧ w2.frozen? ⟨b, 0, none⟩ = false := by
  have hrow : w2.heap[b]? = some (.cells #[v, .nilIface] 61 (0, 0)) := (h3.block b hW.lt (fun e => hW.2.2.2 e)).trans hW.2.1
  exact ⟨by rw [cell_of_row _ _ _ _ _ _ hrow]; rfl, frozen_of_row _ _ _ _ _ hrow⟩

theorem Own.sl {w : World} {base : Nat} {v : Value} {cs : List Value} (h : Own w base v cs) : ∃ a n c, v = .slice a n c := by
  obtain ⟨a, c, h⟩ := h.shape
  exact ⟨a, _, c, h⟩
set_option maxRecDepth 100000 in
set_option maxHeartbeats 400000 in
theorem appendText_any (base : Nat) (v : Value) (bs : List UInt8) (s : ByteArray) (w : World) (hs : s.size ≤ 140737488355328) (hown : OwnB w base v bs) (hlen : bs.length + (wrText s.data.toList).length ≤ 140737488355328) (hbase : base ≤ w.heap.size) :
    Calls Tryd.prog 59 #[v, .string s] w fun e w' => ∃ v', e = .returned v' ∧ OwnB w' base v' (bs ++ wrText s.data.toList) ∧ Keep (OwnS v) w w' ∧ From w v v' := by
  rw [wrText, List.length_append, data_length] at hlen
  have hsz : (s.size : Int) ≤ 9223372036854775807 := by omega
  have Hown := hid hown
  clear hown
  go_enter Tryd.func59, Tryd.ntmps59
  go_wp2_with (go_at_call 56; fail)
  go_at_call 56
  refine (appendNum_any base v bs s.size w (by omega) Hown.out (by omega) hbase).mono ?_
  rintro e w1 ⟨v1, rfl, h1, h2, h3⟩
  obtain ⟨v2, w2, hc, g1, g2, g3⟩ := appS w1 base v1 _ s h1 (by rw [List.length_append]; omega) (Nat.le_trans hbase h2.size)
  have H1 := hid g1
  have H2 := hid (h2.own_trans g2 h3)
  have H3 := hid (h3.trans g3 h2.size)
  clear g1 g2 g3 h1 h2 h3
  go_wp2_with (at_builtin; go_must (refine Lib.wpList_append_run _ rfl _ _ 57 9 rfl _ _ rfl rfl _ _ hc ?_))
  go_ret
  refine ⟨_, rfl, ?_, H2.out, H3.out⟩
  rw [wrText, data_length, ← List.append_assoc]; exact H1.out

set_option maxRecDepth 100000 in
theorem newWriter_any (w : World) :
    Calls Tryd.prog 6 #[] w fun r w' => r = .returned (.pointer (some ⟨w.heap.size, 0, none⟩)) ∧ Wri w' w.heap.size w.heap.size (.slice none 0 0) (.ok []) ∧ Below w.heap.size w w' ∧ w'.heap.size = w.heap.size + 1 := by
  go_enter Tryd.func6, Tryd.ntmps6
  go_wp2
  go_ret
  exact ⟨rfl, ⟨Nat.le_refl _, heap_alloc_new w _, Own.nil _ _, by simp [Value.ownBlock]⟩, (Below.refl _ _).alloc (Nat.le_refl _) _, size_alloc _ _⟩

set_option maxRecDepth 100000 in
set_option maxHeartbeats 400000 in
theorem wByte_any (base b : Nat) (v : Value) (st : WSt) (n : Int) (w : World) (hW : Wri w base b v st) (hbase : base ≤ w.heap.size) (hlen : ∀ bs, st = .ok bs → bs.length + 1 ≤ 140737488355328) :
    Calls Tryd.prog 17 #[.pointer (some ⟨b, 0, none⟩), .int .i64 n] w (WPost w base b v (st.put (byteErr n) [UInt8.ofNat n.toNat])) := by
  have HW := hid hW
  go_enter Tryd.func17, Tryd.ntmps17
  cases st with
  | bad f =>
    clear hW
    go_wp2_with (first
      | (go_at_call 54; refine (byteFault_any n _).mono ?_; rintro e w' ⟨rfl, hw'⟩; rw [hw']; clear hw' w')
      | (go_at_call 53; refine (takes_bad _ HW.out).mono ?_; rintro e w' ⟨rfl, hw'⟩; rw [hw']; clear hw' w'))
    go_end0
    exact ⟨rfl, v, HW.out, Keep.refl _ _, From.refl _ _⟩
  | ok bs =>
    by_cases he : byteErr n = 0
    · have hn : 0 ≤ n ∧ n ≤ 255 := by
        rw [byteErr] at he
        split at he
        · cases he
        · omega
      obtain ⟨hn0, hn1⟩ := hn
      have hx : n = ((UInt8.ofNat n.toNat).toNat : Int) := by simp; omega
      obtain ⟨c0, f0⟩ := wri_cells hW (Keep.refl _ w)
      obtain ⟨v2, w2, hc, h2, h3, h4⟩ := app1 w base v bs (UInt8.ofNat n.toNat) n hx hW.2.2.1 (hlen bs rfl) hbase
      obtain ⟨a2, n2, k2, rfl⟩ := Own.sl h2
      obtain ⟨c2, f2⟩ := wri_cells hW h3
      obtain ⟨g1, g2⟩ := wri_store hW h2 h3 h4
      have G1 := hid g1
      have G2 := hid g2
      have H4 := hid h4
      have hp : WSt.put (.ok bs) (byteErr n) [UInt8.ofNat n.toNat] = .ok (bs ++ [UInt8.ofNat n.toNat]) := by rw [WSt.put, if_pos he]
      rw [hp]
      clear g1 g2 h2 h3 h4 hW hp hx
      go_wp2_with (first
        | (go_at_call 54; refine (byteFault_any n _).mono ?_; rw [he]; rintro e w' ⟨rfl, hw'⟩; rw [hw']; clear hw' w')
        | (go_at_call 53; refine (takes_yes _ HW.out rfl).mono ?_; rintro e w' ⟨rfl, hw'⟩; rw [hw']; clear hw' w')
        | (at_builtin; go_must (refine Lib.wpList_append_run _ rfl _ _ 57 57 rfl _ _ rfl rfl _ _ hc ?_)))
      go_end0
      exact ⟨rfl, _, G1.out, G2.out, H4.out⟩
    · have hp : WSt.put (.ok bs) (byteErr n) [UInt8.ofNat n.toNat] = .bad (byteErr n) := by rw [WSt.put, if_neg he]
      rw [hp]
      clear hW hp
      go_wp2_with (first
        | (go_at_call 54; refine (byteFault_any n _).mono ?_; rintro e w' ⟨rfl, hw'⟩; rw [hw']; clear hw' w')
        | (go_at_call 53; refine (takes_no _ HW.out he).mono ?_; rintro e w1 ⟨rfl, k1, k2⟩; have K1 := hid k1; have K2 := hid k2; clear k1 k2))
      go_end0
      exact ⟨rfl, _, K1.out, Keep.ofBut K2.out (.inl rfl), fun k hk => by cases hk⟩
set_option maxRecDepth 100000 in
set_option maxHeartbeats 400000 in
theorem wNum_any (base b : Nat) (v : Value) (st : WSt) (n : Int) (h1 : -9223372036854775808 ≤ n) (h2 : n ≤ 9223372036854775807) (w : World) (hW : Wri w base b v st) (hbase : base ≤ w.heap.size) (hlen : ∀ bs, st = .ok bs → bs.length + 9 ≤ 140737488355328) :
    Calls Tryd.prog 18 #[.pointer (some ⟨b, 0, none⟩), .int .i64 n] w (WPost w base b v (st.put (numErr n) (digs n.toNat))) := by
  have HW := hid hW
  go_enter Tryd.func18, Tryd.ntmps18
  cases st with
  | bad f =>
    clear hW
    go_wp2_with (first
      | (go_at_call 55; refine (numFault_any n h1 h2 _).mono ?_; rintro e w' ⟨rfl, hw'⟩; rw [hw']; clear hw' w')
      | (go_at_call 53; refine (takes_bad _ HW.out).mono ?_; rintro e w' ⟨rfl, hw'⟩; rw [hw']; clear hw' w'))
    go_end0
    exact ⟨rfl, v, HW.out, Keep.refl _ _, From.refl _ _⟩
  | ok bs =>
    by_cases he : numErr n = 0
    · have hn : 0 ≤ n ∧ n ≤ 4611686018427387904 := by
        rw [numErr] at he
        split at he
        · cases he
        · omega
      obtain ⟨m, rfl⟩ := Int.eq_ofNat_of_zero_le hn.1
      have hm9 : (digs m).length ≤ 9 := digs_len9 (by omega)
      obtain ⟨c0, f0⟩ := wri_cells hW (Keep.refl _ w)
      have hp : WSt.put (.ok bs) (numErr (m : Int)) (digs (m : Int).toNat) = .ok (bs ++ digs m) := by rw [WSt.put, if_pos he, Int.toNat_natCast]
      rw [hp]
      have hl := hlen bs rfl
      clear hW hp
      go_wp2_with (first
        | (go_at_call 55; refine (numFault_any (m : Int) h1 h2 _).mono ?_; rw [he]; rintro e w' ⟨rfl, hw'⟩; rw [hw']; clear hw' w')
        | (go_at_call 53; refine (takes_yes _ HW.out rfl).mono ?_; rintro e w' ⟨rfl, hw'⟩; rw [hw']; clear hw' w')
        | (go_at_call 56; fail))
      go_at_call 56
      refine (appendNum_any base v bs m w (by omega) HW.out.2.2.1 (by omega) hbase).mono ?_
      rintro e w2 ⟨v2, rfl, g2, g3, g4⟩
      obtain ⟨a2, n2, k2, rfl⟩ := Own.sl g2
      obtain ⟨c2, f2⟩ := wri_cells HW.out g3
      obtain ⟨k1, k2⟩ := wri_store HW.out g2 g3 g4
      have G1 := hid k1
      have G2 := hid k2
      have H4 := hid g4
      clear k1 k2 g2 g3 g4
      go_wp2
      go_end0
      exact ⟨rfl, _, G1.out, G2.out, H4.out⟩
    · have hp : WSt.put (.ok bs) (numErr n) (digs n.toNat) = .bad (numErr n) := by rw [WSt.put, if_neg he]
      rw [hp]
      clear hW hp
      go_wp2_with (first
        | (go_at_call 55; refine (numFault_any n h1 h2 _).mono ?_; rintro e w' ⟨rfl, hw'⟩; rw [hw']; clear hw' w')
        | (go_at_call 53; refine (takes_no _ HW.out he).mono ?_; rintro e w1 ⟨rfl, k1, k2⟩; have K1 := hid k1; have K2 := hid k2; clear k1 k2))
      go_end0
      exact ⟨rfl, _, K1.out, Keep.ofBut K2.out (.inl rfl), fun k hk => by cases hk⟩
set_option maxRecDepth 100000 in
set_option maxHeartbeats 400000 in
theorem wText_any (base b : Nat) (v : Value) (st : WSt) (s : ByteArray) (most : Int) (w : World) (hs : s.size ≤ 140737488355328) (hW : Wri w base b v st) (hbase : base ≤ w.heap.size) (hlen : ∀ bs, st = .ok bs → bs.length + (wrText s.data.toList).length ≤ 140737488355328) :
    Calls Tryd.prog 20 #[.pointer (some ⟨b, 0, none⟩), .string s, .int .i64 most] w (WPost w base b v (st.put (textErr s.size most) (wrText s.data.toList))) := by
  have HW := hid hW
  go_enter Tryd.func20, Tryd.ntmps20
  cases st with
  | bad f =>
    clear hW
    go_wp2_with (first
      | (go_at_call 58; refine (textFault_any s most _).mono ?_; rintro e w' ⟨rfl, hw'⟩; rw [hw']; clear hw' w')
      | (go_at_call 53; refine (takes_bad _ HW.out).mono ?_; rintro e w' ⟨rfl, hw'⟩; rw [hw']; clear hw' w'))
    go_end0
    exact ⟨rfl, v, HW.out, Keep.refl _ _, From.refl _ _⟩
  | ok bs =>
    by_cases he : textErr s.size most = 0
    · obtain ⟨c0, f0⟩ := wri_cells hW (Keep.refl _ w)
      have hp : WSt.put (.ok bs) (textErr s.size most) (wrText s.data.toList) = .ok (bs ++ wrText s.data.toList) := by rw [WSt.put, if_pos he]
      rw [hp]
      have hl := hid (hlen bs rfl)
      clear hW hp hlen
      go_wp2_with (first
        | (go_at_call 58; refine (textFault_any s most _).mono ?_; rw [he]; rintro e w' ⟨rfl, hw'⟩; rw [hw']; clear hw' w')
        | (go_at_call 53; refine (takes_yes _ HW.out rfl).mono ?_; rintro e w' ⟨rfl, hw'⟩; rw [hw']; clear hw' w')
        | (go_at_call 59; fail))
      go_at_call 59
      refine (appendText_any base v bs s w hs HW.out.2.2.1 hl.out hbase).mono ?_
      rintro e w2 ⟨v2, rfl, g2, g3, g4⟩
      obtain ⟨a2, n2, k2, rfl⟩ := Own.sl g2
      obtain ⟨c2, f2⟩ := wri_cells HW.out g3
      obtain ⟨k1, k2⟩ := wri_store HW.out g2 g3 g4
      have G1 := hid k1
      have G2 := hid k2
      have H4 := hid g4
      clear k1 k2 g2 g3 g4
      go_wp2
      go_end0
      exact ⟨rfl, _, G1.out, G2.out, H4.out⟩
    · have hp : WSt.put (.ok bs) (textErr s.size most) (wrText s.data.toList) = .bad (textErr s.size most) := by rw [WSt.put, if_neg he]
      rw [hp]
      clear hW hp
      go_wp2_with (first
        | (go_at_call 58; refine (textFault_any s most _).mono ?_; rintro e w' ⟨rfl, hw'⟩; rw [hw']; clear hw' w')
        | (go_at_call 53; refine (takes_no _ HW.out he).mono ?_; rintro e w1 ⟨rfl, k1, k2⟩; have K1 := hid k1; have K2 := hid k2; clear k1 k2))
      go_end0
      exact ⟨rfl, _, K1.out, Keep.ofBut K2.out (.inl rfl), fun k hk => by cases hk⟩
set_option maxRecDepth 100000 in
set_option maxHeartbeats 400000 in
theorem wRaw_any (base b : Nat) (v : Value) (st : WSt) (s : ByteArray) (w : World) (hW : Wri w base b v st) (hbase : base ≤ w.heap.size) (hlen : ∀ bs, st = .ok bs → bs.length + s.size ≤ 140737488355328) :
    Calls Tryd.prog 32 #[.pointer (some ⟨b, 0, none⟩), .string s] w (WPost w base b v (st.put 0 s.data.toList)) := by
  have HW := hid hW
  go_enter Tryd.func32, Tryd.ntmps32
  cases st with
  | bad f =>
    clear hW
    go_wp2_with (go_at_call 53; refine (takes_bad _ HW.out).mono ?_; rintro e w' ⟨rfl, hw'⟩; rw [hw']; clear hw' w')
    go_end0
    exact ⟨rfl, v, HW.out, Keep.refl _ _, From.refl _ _⟩
  | ok bs =>
    obtain ⟨c0, f0⟩ := wri_cells hW (Keep.refl _ w)
    obtain ⟨v2, w2, hc, h2, h3, h4⟩ := appS w base v bs s hW.2.2.1 (hlen bs rfl) hbase
    obtain ⟨a2, n2, k2, rfl⟩ := Own.sl h2
    obtain ⟨c2, f2⟩ := wri_cells hW h3
    obtain ⟨g1, g2⟩ := wri_store hW h2 h3 h4
    have G1 := hid g1
    have G2 := hid g2
    have H4 := hid h4
    have hp : WSt.put (.ok bs) 0 s.data.toList = .ok (bs ++ s.data.toList) := by rw [WSt.put, if_pos rfl]
    rw [hp]
    clear g1 g2 h2 h3 h4 hW hp
    go_wp2_with (first
      | (go_at_call 53; refine (takes_yes _ HW.out rfl).mono ?_; rintro e w' ⟨rfl, hw'⟩; rw [hw']; clear hw' w')
      | (at_builtin; go_must (refine Lib.wpList_append_run _ rfl _ _ 57 9 rfl _ _ rfl rfl _ _ hc ?_)))
    go_end0
    exact ⟨rfl, _, G1.out, G2.out, H4.out⟩
end Go.Proofs.YtonmhimoglgbgaaDoor
