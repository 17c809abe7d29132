import Derived.Test.YtmhgdcfmfcjagaaGreatDoorPkF1
namespace Go.Proofs.YtmhgdcfmfcjagaaGreatDoor
open Go.RowKit Cod

namespace Cod
/-- what is wrong has a number above 0 -/
def NZ {α : Type} (x : Rd α) : Prop := ∀ e, x = .bad e → 0 < e
theorem NZ.bind {α β : Type} {x : Rd α} {k : α → List UInt8 → Rd β} (h : NZ x) (hk : ∀ v r, NZ (k v r)) : NZ (x.bind k) := by
  cases x with
  | bad e => intro f hf; exact h f (by rw [Rd.bind_bad] at hf; injection hf with hf; rw [hf])
  | good v r => exact hk v r
theorem NZ.good {α : Type} (v : α) (r : List UInt8) : NZ (Rd.good v r) := fun e h => by cases h
theorem NZ.bad {α : Type} {e : Nat} (h : 0 < e) : NZ (Rd.bad e : Rd α) := fun f hf => by injection hf with hf; omega
theorem NZ.ite {α : Type} {c : Prop} [Decidable c] {x y : Rd α} (hx : NZ x) (hy : NZ y) : NZ (if c then x else y) := by split <;> assumption
theorem nz_dig : ∀ (s : List UInt8) (i acc : Nat), NZ (rdDig s i acc)
  | [], i, acc => NZ.ite (NZ.bad (by omega)) (NZ.bad (by omega))
  | b :: r, i, acc => NZ.ite (NZ.bad (by omega)) (NZ.ite (nz_dig r _ _) (NZ.ite (NZ.bad (by omega)) (NZ.ite (NZ.bad (by omega)) (NZ.good _ _))))
theorem nz_num (s : List UInt8) : NZ (rdNum s) := nz_dig s 0 0
theorem nz_byte (s : List UInt8) : NZ (rdByte s) := by cases s <;> first | exact NZ.bad (by omega) | exact NZ.good _ _
theorem nz_many (s : List UInt8) (m : Int) : NZ (rdMany s m) := NZ.ite (NZ.bad (by omega)) (NZ.bind (nz_num s) fun _ _ => NZ.ite (NZ.bad (by omega)) (NZ.good _ _))
theorem nz_raw (s : List UInt8) (n : Int) : NZ (rdRaw s n) := NZ.ite (NZ.bad (by omega)) (NZ.ite (NZ.bad (by omega)) (NZ.good _ _))
theorem nz_text (s : List UInt8) (m : Int) : NZ (rdText s m) := NZ.bind (nz_many s m) fun _ _ => nz_raw _ _
theorem nz_textsN (m : Int) : ∀ n l s, NZ (rdTextsN m n l s)
  | 0, _, _ => NZ.good _ _
  | n + 1, _, s => NZ.bind (nz_text s m) fun _ _ => nz_textsN m n _ _
theorem nz_texts (s : List UInt8) (many m : Int) : NZ (rdTexts s many m) := NZ.ite (NZ.bad (by omega)) (NZ.bind (nz_many s many) fun _ _ => nz_textsN m _ _ _)
theorem nz_riseN : ∀ n a l s, NZ (rdRiseN n a l s)
  | 0, _, _, _ => NZ.good _ _
  | n + 1, _, _, s => NZ.bind (nz_num s) fun _ _ => NZ.ite (NZ.bad (by omega)) (nz_riseN n _ _ _)
theorem nz_rising (s : List UInt8) (many : Int) : NZ (rdRising s many) := NZ.bind (nz_many s many) fun _ _ => nz_riseN _ _ _ _
theorem nz_hashN : ∀ n l s, NZ (rdHashN n l s)
  | 0, _, _ => NZ.good _ _
  | n + 1, _, _ => nz_hashN n _ _
theorem nz_hashes (s : List UInt8) (many : Int) : NZ (rdHashes s many) := NZ.bind (nz_many s many) fun _ _ => NZ.ite (NZ.bad (by omega)) (nz_hashN _ _ _)
end Cod

theorem numAt_sv (l : List UInt8) (w : World) (hs : l.length ≤ maxLen) :
    Calls Tryz.prog 129 #[sv l] w fun r w' => r = .returned (tupN (rdNum l)) ∧ Below w.heap.size w w' := by
  have := numAt_any ⟨l.toArray⟩ w (by rw [sv_size]; exact hs)
  rwa [sv_data] at this
theorem isEmpty_data (s : ByteArray) : s.toList.isEmpty = decide (s.size = 0) := by
  have h := data_length s
  rw [ByteArray.toList_eq]
  cases hd : s.data.toList with
  | nil => rw [hd] at h; simp at h; simp [← h]
  | cons a r =>
    have hz : ¬ s.size = 0 := by rw [hd, List.length_cons] at h; omega
    rw [decide_eq_false hz]; rfl

set_option maxRecDepth 100000 in
set_option maxHeartbeats 1000000 in
theorem byteAt_any (s : ByteArray) (w : World) (hs : s.size ≤ maxLen) :
    Calls Tryz.prog 186 #[.string s] w fun r w' => r = .returned (tupN (rdByte s.data.toList)) ∧ Below w.heap.size w w' := by
  unfold maxLen at hs
  have he := isEmpty_data s
  by_cases h0 : s.size = 0
  · rw [decide_eq_true h0] at he
    have : s.data.toList = [] := List.length_eq_zero_iff.1 (by rw [data_length]; exact h0)
    rw [this]
    go_enter Tryz.func186, Tryz.ntmps186
    go_wp2
    go_ret3
    exact ⟨rfl, Below.refl _ _⟩
  · rw [decide_eq_false h0] at he
    obtain ⟨x, hx, hx2, hi, hi2⟩ := index_any s 0 0 rfl (by omega)
    have hs0 := hi2 (by omega)
    have hp : (0 : Int) < (s.size : Int) := by omega
    have hp1 : (1 : Int) ≤ (s.size : Int) := by omega
    have hcons : s.data.toList = UInt8.ofNat x :: s.data.toList.drop 1 := by
      have hk' : 0 < s.data.toList.length := by rw [data_length]; omega
      have := List.drop_eq_getElem_cons hk'
      rw [List.drop_zero] at this
      rw [hx.out, List.getD_eq_getElem?_getD, List.getElem?_eq_getElem hk']
      simpa using this
    have hxu : (UInt8.ofNat x).toNat = x := by simp; omega
    have hr : rdByte s.data.toList = .good x (s.data.toList.drop 1) := by
      conv => lhs; rw [hcons]
      rw [rdByte, hxu]
    rw [hr, tupN, sv_drop]
    clear hr hxu hcons hi2
    go_enter Tryz.func186, Tryz.ntmps186
    go_wp2
    go_quiet (fail)
    go_wp2
    go_ret3
    exact ⟨rfl, below_drewN (Below.refl _ _) _⟩

set_option maxRecDepth 100000 in
set_option maxHeartbeats 1000000 in
theorem manyAt_any (s : ByteArray) (most : Int) (w : World) (hs : s.size ≤ maxLen) :
    Calls Tryz.prog 124 #[.string s, .int .i64 most] w fun r w' => r = .returned (tupN (rdMany s.data.toList most)) ∧ Below w.heap.size w w' := by
  rw [rdMany]
  by_cases h : most < 0
  · rw [if_pos h]
    go_enter Tryz.func124, Tryz.ntmps124
    go_wp2
    go_ret3
    exact ⟨rfl, Below.refl _ _⟩
  rw [if_neg h]
  have hN := numAt_any s w hs
  have hnz := nz_num s.data.toList
  cases hR : rdNum s.data.toList with
  | bad e =>
    rw [hR] at hN
    simp only [tupN] at hN
    have he := hnz e hR
    have he' : ((e : Int) == 0) = false := by simp; omega
    clear hR hnz
    rw [Rd.bind_bad]
    go_enter Tryz.func124, Tryz.ntmps124
    go_wp2_with (go_at_call 129; refine hN.mono ?_; rintro x w1 ⟨rfl, h1⟩; have H1 := hid h1; clear h1)
    go_ret3
    exact ⟨rfl, H1.out⟩
  | good n r =>
    rw [hR] at hN
    simp only [tupN] at hN
    clear hR hnz
    rw [Rd.bind_good]
    by_cases hm : most < (n : Int)
    · rw [if_pos hm]
      go_enter Tryz.func124, Tryz.ntmps124
      go_wp2_with (go_at_call 129; refine hN.mono ?_; rintro x w1 ⟨rfl, h1⟩; have H1 := hid h1; clear h1)
      go_ret3
      exact ⟨rfl, H1.out⟩
    · rw [if_neg hm]
      go_enter Tryz.func124, Tryz.ntmps124
      go_wp2_with (go_at_call 129; refine hN.mono ?_; rintro x w1 ⟨rfl, h1⟩; have H1 := hid h1; clear h1)
      go_ret3
      exact ⟨rfl, H1.out⟩
theorem manyAt_sv (l : List UInt8) (most : Int) (w : World) (hs : l.length ≤ maxLen) :
    Calls Tryz.prog 124 #[sv l, .int .i64 most] w fun r w' => r = .returned (tupN (rdMany l most)) ∧ Below w.heap.size w w' := by
  have := manyAt_any ⟨l.toArray⟩ most w (by rw [sv_size]; exact hs)
  rwa [sv_data] at this

set_option maxRecDepth 100000 in
set_option maxHeartbeats 1000000 in
theorem rawAt_any (s : ByteArray) (n : Int) (w : World) :
    Calls Tryz.prog 125 #[.string s, .int .i64 n] w fun r w' => r = .returned (tupS (rdRaw s.data.toList n)) ∧ Below w.heap.size w w' := by
  rw [rdRaw]
  by_cases h : n < 0
  · rw [if_pos h]
    go_enter Tryz.func125, Tryz.ntmps125
    go_wp2
    go_ret3
    exact ⟨rfl, Below.refl _ _⟩
  rw [if_neg h, data_length]
  by_cases h2 : (s.size : Int) < n
  · rw [if_pos h2]
    go_enter Tryz.func125, Tryz.ntmps125
    go_wp2
    go_ret3
    exact ⟨rfl, Below.refl _ _⟩
  rw [if_neg h2]
  obtain ⟨m, rfl⟩ := Int.eq_ofNat_of_zero_le (show 0 ≤ n by omega)
  rw [Int.toNat_natCast, tupS, sv_drop, sv_take]
  have b0 : (m : Int) ≤ (s.size : Int) := by omega
  go_enter Tryz.func125, Tryz.ntmps125
  go_wp2
  go_quiet (fail)
  go_wp2
  go_ret3
  exact ⟨rfl, below_drewN (Below.refl _ _) _⟩
theorem rawAt_sv (l : List UInt8) (n : Int) (w : World) :
    Calls Tryz.prog 125 #[sv l, .int .i64 n] w fun r w' => r = .returned (tupS (rdRaw l n)) ∧ Below w.heap.size w w' := by
  have := rawAt_any ⟨l.toArray⟩ n w
  rwa [sv_data] at this

set_option maxRecDepth 100000 in
set_option maxHeartbeats 1000000 in
theorem textAt_any (s : ByteArray) (most : Int) (w : World) (hs : s.size ≤ maxLen) :
    Calls Tryz.prog 104 #[.string s, .int .i64 most] w fun r w' => r = .returned (tupS (rdText s.data.toList most)) ∧ Below w.heap.size w w' := by
  rw [rdText]
  have hN := manyAt_any s most w hs
  have hnz := nz_many s.data.toList most
  cases hR : rdMany s.data.toList most with
  | bad e =>
    rw [hR] at hN
    simp only [tupN] at hN
    have he := hnz e hR
    have he' : ((e : Int) == 0) = false := by simp; omega
    clear hR hnz
    rw [Rd.bind_bad]
    go_enter Tryz.func104, Tryz.ntmps104
    go_wp2_with (go_at_call 124; refine hN.mono ?_; rintro x w1 ⟨rfl, h1⟩; have H1 := hid h1; clear h1)
    go_ret3
    exact ⟨rfl, H1.out⟩
  | good n r =>
    rw [hR] at hN
    simp only [tupN] at hN
    clear hR hnz
    rw [Rd.bind_good]
    have hraw := fun w => rawAt_sv r (n : Int) w
    have HRaw := hid hraw
    clear hraw
    obtain ⟨X, hX⟩ : ∃ X, Hid (rdRaw r (n : Int) = X) := ⟨_, rfl⟩
    rw [hX.out]
    go_enter Tryz.func104, Tryz.ntmps104
    go_wp2_with (first
      | (go_at_call 124; refine hN.mono ?_; rintro x w1 ⟨rfl, h1⟩; have H1 := hid h1; clear h1)
      | (go_at_call 125; fail))
    go_at_call 125
    refine (HRaw.out _).mono ?_
    rw [hX.out]
    rintro x w2 ⟨rfl, h2⟩
    have H2 := hid (H1.out.trans (h2.mono H1.out.size))
    clear h2
    cases X with
    | bad e =>
      rw [tupS]
      go_wp2
      go_ret3
      exact ⟨rfl, H2.out⟩
    | good t r' =>
      rw [tupS]
      go_wp2
      go_ret3
      exact ⟨rfl, H2.out⟩
theorem textAt_sv (l : List UInt8) (most : Int) (w : World) (hs : l.length ≤ maxLen) :
    Calls Tryz.prog 104 #[sv l, .int .i64 most] w fun r w' => r = .returned (tupS (rdText l most)) ∧ Below w.heap.size w w' := by
  have := textAt_any ⟨l.toArray⟩ most w (by rw [sv_size]; exact hs)
  rwa [sv_data] at this
end Go.Proofs.YtmhgdcfmfcjagaaGreatDoor

namespace Go.Proofs.YtmhgdcfmfcjagaaGreatDoor
open Go.RowKit Cod

/-- what a call of a Writer leaves -/
def WPost (w : World) (base b : Nat) (v : Value) (st : WSt) (r : Ending) (w' : World) : Prop :=
  r = .returned (.tuple #[]) ∧ ∃ v', Wri w' base b v' st ∧ Keep (WS b v) w w' ∧ From w v v'
theorem wri_store {w w2 : World} {base b : Nat} {v v2 : Value} {bs bs2 : List UInt8} (hW : Wri w base b v (.ok bs)) (h2 : OwnB w2 base v2 bs2) (h3 : Keep (OwnS v) w w2) (h4 : From w v v2) :
    Wri (w2.setCell ⟨b, 0, none⟩ v2) base b v2 (.ok bs2) ∧ Keep (WS b v) w (w2.setCell ⟨b, 0, none⟩ v2) := by
  have hl := hW.lt
  have hne : v2.ownBlock ≠ some b := fun e => by
    rcases h4 b e with h | h
    · exact hW.2.2.2 h
    · omega
  have hrow : w2.heap[b]? = some (.cells #[v, .nilIface] 95 (0, 0)) := (h3.block b hl (fun e => hW.2.2.2 e)).trans hW.2.1
  refine ⟨⟨hW.1, row2_set0 hrow, h2.but ((But.refl b w2).setCell 0 v2) hne, hne⟩, ?_⟩
  exact (h3.mono (T := WS b v) (fun _ _ e => .inr e)).setCell b 0 v2 (.inl rfl)
theorem wri_cells {w w2 : World} {base b : Nat} {v : Value} {bs : List UInt8} (hW : Wri w base b v (.ok bs)) (h3 : Keep (OwnS v) w w2) :
    w2.cell? ⟨b, 0, none⟩ = some v ∧ w2.frozen? ⟨b, 0, none⟩ = false := by
  have hrow : w2.heap[b]? = some (.cells #[v, .nilIface] 95 (0, 0)) := (h3.block b hW.lt (fun e => hW.2.2.2 e)).trans hW.2.1
  exact ⟨by rw [cell_of_row _ _ _ _ _ _ hrow]; rfl, frozen_of_row _ _ _ _ _ hrow⟩

theorem Own.sl {w : World} {base : Nat} {v : Value} {cs : List Value} (h : Own w base v cs) : ∃ a n c, v = .slice a n c := by
  obtain ⟨a, c, h⟩ := h.shape
  exact ⟨a, _, c, h⟩
set_option maxRecDepth 100000 in
set_option maxHeartbeats 400000 in
theorem appendText_any (base : Nat) (v : Value) (bs : List UInt8) (s : ByteArray) (w : World) (hs : s.size ≤ 140737488355328) (hown : OwnB w base v bs) (hlen : bs.length + (wrText s.data.toList).length ≤ 140737488355328) (hbase : base ≤ w.heap.size) :
    Calls Tryz.prog 95 #[v, .string s] w fun e w' => ∃ v', e = .returned v' ∧ OwnB w' base v' (bs ++ wrText s.data.toList) ∧ Keep (OwnS v) w w' ∧ From w v v' := by
  rw [wrText, List.length_append, data_length] at hlen
  have hsz : (s.size : Int) ≤ 9223372036854775807 := by omega
  have Hown := hid hown
  clear hown
  go_enter Tryz.func95, Tryz.ntmps95
  go_wp2_with (go_at_call 116; fail)
  go_at_call 116
  refine (appendNum_any base v bs s.size w (by omega) Hown.out (by omega) hbase).mono ?_
  rintro e w1 ⟨v1, rfl, h1, h2, h3⟩
  obtain ⟨v2, w2, hc, g1, g2, g3⟩ := appS w1 base v1 _ s h1 (by rw [List.length_append]; omega) (Nat.le_trans hbase h2.size)
  have H1 := hid g1
  have H2 := hid (h2.own_trans g2 h3)
  have H3 := hid (h3.trans g3 h2.size)
  clear g1 g2 g3 h1 h2 h3
  go_wp2_with (at_builtin; go_must (refine Lib.wpList_append_run _ rfl _ _ 91 9 rfl _ _ rfl rfl _ _ hc ?_))
  go_ret
  refine ⟨_, rfl, ?_, H2.out, H3.out⟩
  rw [wrText, data_length, ← List.append_assoc]; exact H1.out

set_option maxRecDepth 100000 in
theorem newWriter_any (w : World) :
    Calls Tryz.prog 29 #[] w fun r w' => r = .returned (.pointer (some ⟨w.heap.size, 0, none⟩)) ∧ Wri w' w.heap.size w.heap.size (.slice none 0 0) (.ok []) ∧ Below w.heap.size w w' ∧ w'.heap.size = w.heap.size + 1 := by
  go_enter Tryz.func29, Tryz.ntmps29
  go_wp2
  go_ret
  exact ⟨rfl, ⟨Nat.le_refl _, heap_alloc_new w _, Own.nil _ _, by simp [Value.ownBlock]⟩, (Below.refl _ _).alloc (Nat.le_refl _) _, size_alloc _ _⟩

set_option maxRecDepth 100000 in
set_option maxHeartbeats 400000 in
theorem wByte_any (base b : Nat) (v : Value) (st : WSt) (n : Int) (w : World) (hW : Wri w base b v st) (hbase : base ≤ w.heap.size) (hlen : ∀ bs, st = .ok bs → bs.length + 1 ≤ 140737488355328) :
    Calls Tryz.prog 148 #[.pointer (some ⟨b, 0, none⟩), .int .i64 n] w (WPost w base b v (st.put (byteErr n) [UInt8.ofNat n.toNat])) := by
  have HW := hid hW
  go_enter Tryz.func148, Tryz.ntmps148
  cases st with
  | bad f =>
    clear hW
    go_wp2_with (first
      | (go_at_call 161; refine (byteFault_any n _).mono ?_; rintro e w' ⟨rfl, hw'⟩; rw [hw']; clear hw' w')
      | (go_at_call 160; refine (takes_bad _ HW.out).mono ?_; rintro e w' ⟨rfl, hw'⟩; rw [hw']; clear hw' w'))
    go_end0
    exact ⟨rfl, v, HW.out, Keep.refl _ _, From.refl _ _⟩
  | ok bs =>
    by_cases he : byteErr n = 0
    · have hn : 0 ≤ n ∧ n ≤ 255 := by
        rw [byteErr] at he
        split at he
        · cases he
        · omega
      obtain ⟨hn0, hn1⟩ := hn
      have hx : n = ((UInt8.ofNat n.toNat).toNat : Int) := by simp; omega
      obtain ⟨c0, f0⟩ := wri_cells hW (Keep.refl _ w)
      obtain ⟨v2, w2, hc, h2, h3, h4⟩ := app1 w base v bs (UInt8.ofNat n.toNat) n hx hW.2.2.1 (hlen bs rfl) hbase
      obtain ⟨a2, n2, k2, rfl⟩ := Own.sl h2
      obtain ⟨c2, f2⟩ := wri_cells hW h3
      obtain ⟨g1, g2⟩ := wri_store hW h2 h3 h4
      have G1 := hid g1
      have G2 := hid g2
      have H4 := hid h4
      have hp : WSt.put (.ok bs) (byteErr n) [UInt8.ofNat n.toNat] = .ok (bs ++ [UInt8.ofNat n.toNat]) := by rw [WSt.put, if_pos he]
      rw [hp]
      clear g1 g2 h2 h3 h4 hW hp hx
      go_wp2_with (first
        | (go_at_call 161; refine (byteFault_any n _).mono ?_; rw [he]; rintro e w' ⟨rfl, hw'⟩; rw [hw']; clear hw' w')
        | (go_at_call 160; refine (takes_yes _ HW.out rfl).mono ?_; rintro e w' ⟨rfl, hw'⟩; rw [hw']; clear hw' w')
        | (at_builtin; go_must (refine Lib.wpList_append_run _ rfl _ _ 91 91 rfl _ _ rfl rfl _ _ hc ?_)))
      go_end0
      exact ⟨rfl, _, G1.out, G2.out, H4.out⟩
    · have hp : WSt.put (.ok bs) (byteErr n) [UInt8.ofNat n.toNat] = .bad (byteErr n) := by rw [WSt.put, if_neg he]
      rw [hp]
      clear hW hp
      go_wp2_with (first
        | (go_at_call 161; refine (byteFault_any n _).mono ?_; rintro e w' ⟨rfl, hw'⟩; rw [hw']; clear hw' w')
        | (go_at_call 160; refine (takes_no _ HW.out he).mono ?_; rintro e w1 ⟨rfl, k1, k2⟩; have K1 := hid k1; have K2 := hid k2; clear k1 k2))
      go_end0
      exact ⟨rfl, _, K1.out, Keep.ofBut K2.out (.inl rfl), fun k hk => by cases hk⟩
set_option maxRecDepth 100000 in
set_option maxHeartbeats 400000 in
theorem wNum_any (base b : Nat) (v : Value) (st : WSt) (n : Int) (h1 : -9223372036854775808 ≤ n) (h2 : n ≤ 9223372036854775807) (w : World) (hW : Wri w base b v st) (hbase : base ≤ w.heap.size) (hlen : ∀ bs, st = .ok bs → bs.length + 9 ≤ 140737488355328) :
    Calls Tryz.prog 158 #[.pointer (some ⟨b, 0, none⟩), .int .i64 n] w (WPost w base b v (st.put (numErr n) (digs n.toNat))) := by
  have HW := hid hW
  go_enter Tryz.func158, Tryz.ntmps158
  cases st with
  | bad f =>
    clear hW
    go_wp2_with (first
      | (go_at_call 168; refine (numFault_any n h1 h2 _).mono ?_; rintro e w' ⟨rfl, hw'⟩; rw [hw']; clear hw' w')
      | (go_at_call 160; refine (takes_bad _ HW.out).mono ?_; rintro e w' ⟨rfl, hw'⟩; rw [hw']; clear hw' w'))
    go_end0
    exact ⟨rfl, v, HW.out, Keep.refl _ _, From.refl _ _⟩
  | ok bs =>
    by_cases he : numErr n = 0
    · have hn : 0 ≤ n ∧ n ≤ 4611686018427387904 := by
        rw [numErr] at he
        split at he
        · cases he
        · omega
      obtain ⟨m, rfl⟩ := Int.eq_ofNat_of_zero_le hn.1
      have hm9 : (digs m).length ≤ 9 := digs_len9 (by omega)
      obtain ⟨c0, f0⟩ := wri_cells hW (Keep.refl _ w)
      have hp : WSt.put (.ok bs) (numErr (m : Int)) (digs (m : Int).toNat) = .ok (bs ++ digs m) := by rw [WSt.put, if_pos he, Int.toNat_natCast]
      rw [hp]
      have hl := hlen bs rfl
      clear hW hp
      go_wp2_with (first
        | (go_at_call 168; refine (numFault_any (m : Int) h1 h2 _).mono ?_; rw [he]; rintro e w' ⟨rfl, hw'⟩; rw [hw']; clear hw' w')
        | (go_at_call 160; refine (takes_yes _ HW.out rfl).mono ?_; rintro e w' ⟨rfl, hw'⟩; rw [hw']; clear hw' w')
        | (go_at_call 116; fail))
      go_at_call 116
      refine (appendNum_any base v bs m w (by omega) HW.out.2.2.1 (by omega) hbase).mono ?_
      rintro e w2 ⟨v2, rfl, g2, g3, g4⟩
      obtain ⟨a2, n2, k2, rfl⟩ := Own.sl g2
      obtain ⟨c2, f2⟩ := wri_cells HW.out g3
      obtain ⟨k1, k2⟩ := wri_store HW.out g2 g3 g4
      have G1 := hid k1
      have G2 := hid k2
      have H4 := hid g4
      clear k1 k2 g2 g3 g4
      go_wp2
      go_end0
      exact ⟨rfl, _, G1.out, G2.out, H4.out⟩
    · have hp : WSt.put (.ok bs) (numErr n) (digs n.toNat) = .bad (numErr n) := by rw [WSt.put, if_neg he]
      rw [hp]
      clear hW hp
      go_wp2_with (first
        | (go_at_call 168; refine (numFault_any n h1 h2 _).mono ?_; rintro e w' ⟨rfl, hw'⟩; rw [hw']; clear hw' w')
        | (go_at_call 160; refine (takes_no _ HW.out he).mono ?_; rintro e w1 ⟨rfl, k1, k2⟩; have K1 := hid k1; have K2 := hid k2; clear k1 k2))
      go_end0
      exact ⟨rfl, _, K1.out, Keep.ofBut K2.out (.inl rfl), fun k hk => by cases hk⟩
set_option maxRecDepth 100000 in
set_option maxHeartbeats 400000 in
theorem wRaw_any (base b : Nat) (v : Value) (st : WSt) (s : ByteArray) (w : World) (hW : Wri w base b v st) (hbase : base ≤ w.heap.size) (hlen : ∀ bs, st = .ok bs → bs.length + s.size ≤ 140737488355328) :
    Calls Tryz.prog 163 #[.pointer (some ⟨b, 0, none⟩), .string s] w (WPost w base b v (st.put 0 s.data.toList)) := by
  have HW := hid hW
  go_enter Tryz.func163, Tryz.ntmps163
  cases st with
  | bad f =>
    clear hW
    go_wp2_with (go_at_call 160; refine (takes_bad _ HW.out).mono ?_; rintro e w' ⟨rfl, hw'⟩; rw [hw']; clear hw' w')
    go_end0
    exact ⟨rfl, v, HW.out, Keep.refl _ _, From.refl _ _⟩
  | ok bs =>
    obtain ⟨c0, f0⟩ := wri_cells hW (Keep.refl _ w)
    obtain ⟨v2, w2, hc, h2, h3, h4⟩ := appS w base v bs s hW.2.2.1 (hlen bs rfl) hbase
    obtain ⟨a2, n2, k2, rfl⟩ := Own.sl h2
    obtain ⟨c2, f2⟩ := wri_cells hW h3
    obtain ⟨g1, g2⟩ := wri_store hW h2 h3 h4
    have G1 := hid g1
    have G2 := hid g2
    have H4 := hid h4
    have hp : WSt.put (.ok bs) 0 s.data.toList = .ok (bs ++ s.data.toList) := by rw [WSt.put, if_pos rfl]
    rw [hp]
    clear g1 g2 h2 h3 h4 hW hp
    go_wp2_with (first
      | (go_at_call 160; refine (takes_yes _ HW.out rfl).mono ?_; rintro e w' ⟨rfl, hw'⟩; rw [hw']; clear hw' w')
      | (at_builtin; go_must (refine Lib.wpList_append_run _ rfl _ _ 91 9 rfl _ _ rfl rfl _ _ hc ?_)))
    go_end0
    exact ⟨rfl, _, G1.out, G2.out, H4.out⟩
end Go.Proofs.YtmhgdcfmfcjagaaGreatDoor
