import Derived.Test.YtdhnjajloidohaaGreatDoorPkG3
namespace Go.Proofs.YtdhnjajloidohaaGreatDoor
open Go.RowKit Cod

theorem Keep.ws_trans {w w1 w2 : World} {b : Nat} {v v1 : Value} (h : Keep (WS b v) w w1) (k : Keep (WS b v1) w1 w2) (hf : From w v v1) : Keep (WS b v) w w2 :=
  h.trans k fun j hj e => by
    rcases e with rfl | e
    · exact .inl rfl
    · rcases hf j e with h1 | h1
      · exact .inr h1
      · omega
/-- a Writer of bytes, on its way -/
structure Wrt (w : World) (base b : Nat) (v : Value) (wr : World) (v' : Value) (bs : List UInt8) : Prop where
  wri : Wri wr base b v' (.ok bs)
  keep : Keep (WS b v) w wr
  src : From w v v'
theorem Wrt.start {w : World} {base b : Nat} {v : Value} {bs : List UInt8} (h : Wri w base b v (.ok bs)) : Wrt w base b v w v bs := ⟨h, Keep.refl _ _, From.refl _ _⟩
theorem Wrt.store {w wr w2 : World} {base b : Nat} {v v' v2 : Value} {bs bs2 : List UInt8} (h : Wrt w base b v wr v' bs) (h2 : OwnB w2 base v2 bs2) (h3 : Keep (OwnS v') wr w2) (h4 : From wr v' v2) :
    Wrt w base b v (w2.setCell ⟨b, 0, none⟩ v2) v2 bs2 := by
  obtain ⟨g1, g2⟩ := wri_store h.wri h2 h3 h4
  exact ⟨g1, h.keep.ws_trans g2 h.src, h.src.trans h4 h.keep.size⟩
theorem Wrt.post {w wr : World} {base b : Nat} {v v' : Value} {bs : List UInt8} (h : Wrt w base b v wr v' bs) : WPost w base b v (.ok bs) (.returned (.tuple #[])) wr := ⟨rfl, v', h.wri, h.keep, h.src⟩
theorem Wrt.base {w wr : World} {base b : Nat} {v v' : Value} {bs : List UInt8} (h : Wrt w base b v wr v' bs) (hb : base ≤ w.heap.size) : base ≤ wr.heap.size := Nat.le_trans hb h.keep.size

theorem wrRise_cons (least n : Nat) (l : List Nat) : wrRise least (n :: l) = digs (n - least) ++ wrRise (n + 1) l := rfl
set_option maxRecDepth 100000 in
set_option maxHeartbeats 1000000 in
theorem wRising_any (base b : Nat) (v : Value) (st : WSt) (u : Value) (l : List Int) (hb : ∀ c ∈ l, -9223372036854775808 ≤ c ∧ c ≤ 9223372036854775807) (hl : l.length ≤ maxLen) (w : World) (hs : SlcI w u l) (hap : Apart u (WS b v))
    (hW : Wri w base b v st) (hbase : base ≤ w.heap.size) (hlen : ∀ bs, st = .ok bs → bs.length + (wrRising (l.map Int.toNat)).length ≤ 140737488355328) :
    Calls Tryz.prog 191 #[.pointer (some ⟨b, 0, none⟩), u] w (WPost w base b v (st.put (risingErr l) (wrRising (l.map Int.toNat)))) := by
  have HW := hid hW
  have HS := hid hs
  have HB := hid hb
  have HA := hid hap
  clear hb hap
  obtain ⟨a, cap, rfl, _⟩ := hs
  go_enter Tryz.func191, Tryz.ntmps191
  cases st with
  | bad f =>
    clear hW
    go_wp2_with (first
      | (go_at_call 195; refine (risingFault_any _ l HB.out hl _ HS.out).mono ?_; rintro e w' ⟨rfl, hw'⟩; rw [hw']; clear hw' w')
      | (go_at_call 188; refine (takes_bad _ HW.out).mono ?_; rintro e w' ⟨rfl, hw'⟩; rw [hw']; clear hw' w'))
    go_end0
    exact ⟨rfl, v, HW.out, Keep.refl _ _, From.refl _ _⟩
  | ok bs =>
    by_cases he : risingErr l = 0
    · have hr : risesB (-1) l = true := by
        rw [risingErr] at he
        split at he
        · assumption
        · cases he
      have HR := hid hr
      have hp : WSt.put (.ok bs) (risingErr l) (wrRising (l.map Int.toNat)) = .ok (bs ++ wrRising (l.map Int.toNat)) := by rw [WSt.put, if_pos he]
      rw [hp]
      have HL := hid (hlen bs rfl)
      obtain ⟨c0, f0⟩ := wri_cells hW (Keep.refl _ w)
      have hll : (l.length : Int) ≤ 9223372036854775807 := by unfold maxLen at hl; omega
      have hd0 : bs.length + (digs l.length).length ≤ 140737488355328 := by
        have := HL.out
        rw [wrRising, List.length_append, List.length_map] at this
        omega
      clear hp hr hW hlen
      go_wp2_with (first
        | (go_at_call 195; refine (risingFault_any _ l HB.out hl _ HS.out).mono ?_; rw [he]; rintro e w' ⟨rfl, hw'⟩; rw [hw']; clear hw' w')
        | (go_at_call 188; refine (takes_yes _ HW.out rfl).mono ?_; rintro e w' ⟨rfl, hw'⟩; rw [hw']; clear hw' w')
        | (go_at_call 72; fail))
      go_at_call 72
      refine (appendNum_any base v bs l.length w (by omega) HW.out.2.2.1 hd0 hbase).mono ?_
      rintro e w2 ⟨v2, rfl, g2, g3, g4⟩
      obtain ⟨a2, n2, k2, rfl⟩ := Own.sl g2
      obtain ⟨c2, f2⟩ := wri_cells HW.out g3
      have W1 := hid ((Wrt.start HW.out).store g2 g3 g4)
      clear g2 g3 g4
      go_wp2
      go_loopw [4, 24] (fun le i w' => ∃ (k L : Nat) (v' : Value) (bs' : List UInt8), k ≤ l.length ∧ i = .int .i64 k ∧ le = .int .i64 (L : Int) ∧ L ≤ 4611686018427387905 ∧ Hid (Wrt w base b v w' v' bs') ∧ Hid (risesB ((L : Int) - 1) (l.drop k) = true) ∧
          Hid (bs' ++ wrRise L ((l.drop k).map Int.toNat) = bs ++ wrRising (l.map Int.toNat))) (fun _ i _ => l.length - (intOf i).toNat)
      case atStart => exact ⟨0, 0, _, _, by omega, rfl, rfl, by omega, W1, HR, by show _ = _; rw [List.drop_zero, wrRising, List.length_map, List.append_assoc]⟩
      case round =>
        obtain ⟨k, L, v', bs', hk, rfl, rfl, hL, hw, hr, hbb⟩ := hrel
        by_cases hlt : k < l.length
        · have hlt' : (k : Int) < (l.length : Int) := by omega
          obtain ⟨a', cap', hu, hcs⟩ := (HS.out.keep hw.out.keep HA.out)
          cases hu
          obtain ⟨x, hx, hxb, hc⟩ := hcs k _ (List.getElem?_eq_getElem hlt)
          subst hx
          have hr2 := hr.out
          have hb2 := hbb.out
          rw [List.drop_eq_getElem_cons hlt, risesB, Bool.and_eq_true, decide_eq_true_eq] at hr2
          rw [List.drop_eq_getElem_cons hlt, List.map_cons, wrRise_cons] at hb2
          generalize l[k] = c at *
          obtain ⟨⟨hc0, hc1, hc2⟩, hr3⟩ := hr2
          obtain ⟨m, rfl⟩ := Int.eq_ofNat_of_zero_le hc0
          rw [Int.toNat_natCast] at hb2
          have hd : (m : Int) - (L : Int) = ((m - L : Nat) : Int) := by omega
          have hdl : bs'.length + (digs (m - L)).length ≤ 140737488355328 := by
            have := congrArg List.length hb2
            have h2 := HL.out
            simp only [List.length_append] at this
            omega
          have hml : m - L ≤ 9223372036854775807 := by omega
          have b0 : 0 ≤ (m : Int) - (L : Int) := by omega
          have b1 : (m : Int) - (L : Int) ≤ 9223372036854775807 := by omega
          have b2 : (m : Int) + 1 ≤ 9223372036854775807 := by omega
          have HB2 := hid hb2
          have HR3 := hid hr3
          have hbw := hw.out.base hbase
          obtain ⟨c0', f0'⟩ := wri_cells hw.out.wri (Keep.refl _ wr)
          clear hb2 hr3 hcs c0 f0 c2 f2 he
          go_wp2_with (go_at_call 72; fail)
          go_at_call 72
          refine (appendNum_any base v' bs' (m - L) wr hml hw.out.wri.2.2.1 hdl hbw).mono ?_
          rintro e w3 ⟨v3, rfl, g2, g3, g4⟩
          obtain ⟨a3, n3, k3, rfl⟩ := Own.sl g2
          obtain ⟨c3, f3⟩ := wri_cells hw.out.wri g3
          have W3 := hid (hw.out.store g2 g3 g4)
          clear g2 g3 g4
          go_wp2
          refine ⟨⟨k + 1, m + 1, _, _, by omega, by go_num, by go_num, by omega, W3, ?_, ?_⟩, by simp [intOf]; omega⟩
          · show risesB _ _ = true
            rw [show ((m + 1 : Nat) : Int) - 1 = (m : Int) from by omega]; exact HR3.out
          · show _ = _
            rw [List.append_assoc]; exact HB2.out
        · obtain rfl : k = l.length := by omega
          have e := hbb.out
          rw [List.drop_length, List.map_nil, wrRise, List.append_nil] at e
          subst e
          go_wp2
          go_end0
          exact hw.out.post
    · have hp : WSt.put (.ok bs) (risingErr l) (wrRising (l.map Int.toNat)) = .bad (risingErr l) := by rw [WSt.put, if_neg he]
      rw [hp]
      clear hW hp
      go_wp2_with (first
        | (go_at_call 195; refine (risingFault_any _ l HB.out hl _ HS.out).mono ?_; rintro e w' ⟨rfl, hw'⟩; rw [hw']; clear hw' w')
        | (go_at_call 188; refine (takes_no _ HW.out he).mono ?_; rintro e w1 ⟨rfl, k1, k2⟩; have K1 := hid k1; have K2 := hid k2; clear k1 k2))
      go_end0
      exact ⟨rfl, _, K1.out, Keep.ofBut K2.out (.inl rfl), fun k hk => by cases hk⟩

theorem texts_cons (p : List UInt8) (ps : List (List UInt8)) : ((p :: ps).map wrText).flatten = wrText p ++ (ps.map wrText).flatten := rfl
set_option maxRecDepth 100000 in
set_option maxHeartbeats 1000000 in
theorem wTexts_any (base b : Nat) (v : Value) (st : WSt) (u : Value) (ps : List (List UInt8)) (many most : Int) (hl : ps.length ≤ maxLen) (w : World) (hs : Slc w u ps) (hap : Apart u (WS b v))
    (hW : Wri w base b v st) (hbase : base ≤ w.heap.size) (hlen : ∀ bs, st = .ok bs → bs.length + (wrTexts ps).length ≤ 140737488355328) :
    Calls Tryz.prog 192 #[.pointer (some ⟨b, 0, none⟩), u, .int .i64 many, .int .i64 most] w (WPost w base b v (st.put (textsErr ps many most) (wrTexts ps))) := by
  have HW := hid hW
  have HS := hid hs
  have HA := hid hap
  clear hap
  obtain ⟨a, cap, rfl, _⟩ := hs
  go_enter Tryz.func192, Tryz.ntmps192
  cases st with
  | bad f =>
    clear hW
    go_wp2_with (first
      | (go_at_call 196; refine (textsFault_any _ ps many most hl _ HS.out).mono ?_; rintro e w' ⟨rfl, hw'⟩; rw [hw']; clear hw' w')
      | (go_at_call 188; refine (takes_bad _ HW.out).mono ?_; rintro e w' ⟨rfl, hw'⟩; rw [hw']; clear hw' w'))
    go_end0
    exact ⟨rfl, v, HW.out, Keep.refl _ _, From.refl _ _⟩
  | ok bs =>
    by_cases he : textsErr ps many most = 0
    · have hp : WSt.put (.ok bs) (textsErr ps many most) (wrTexts ps) = .ok (bs ++ wrTexts ps) := by rw [WSt.put, if_pos he]
      rw [hp]
      have HL := hid (hlen bs rfl)
      obtain ⟨c0, f0⟩ := wri_cells hW (Keep.refl _ w)
      have hll : (ps.length : Int) ≤ 9223372036854775807 := by unfold maxLen at hl; omega
      have hd0 : bs.length + (digs ps.length).length ≤ 140737488355328 := by
        have := HL.out
        rw [wrTexts, List.length_append] at this
        omega
      clear hp hW hlen
      go_wp2_with (first
        | (go_at_call 196; refine (textsFault_any _ ps many most hl _ HS.out).mono ?_; rw [he]; rintro e w' ⟨rfl, hw'⟩; rw [hw']; clear hw' w')
        | (go_at_call 188; refine (takes_yes _ HW.out rfl).mono ?_; rintro e w' ⟨rfl, hw'⟩; rw [hw']; clear hw' w')
        | (go_at_call 72; fail))
      go_at_call 72
      refine (appendNum_any base v bs ps.length w (by omega) HW.out.2.2.1 hd0 hbase).mono ?_
      rintro e w2 ⟨v2, rfl, g2, g3, g4⟩
      obtain ⟨a2, n2, k2, rfl⟩ := Own.sl g2
      obtain ⟨c2, f2⟩ := wri_cells HW.out g3
      have W1 := hid ((Wrt.start HW.out).store g2 g3 g4)
      clear g2 g3 g4
      go_wp2
      go_loopw [29] (fun i w' => ∃ (k : Nat) (v' : Value) (bs' : List UInt8), k ≤ ps.length ∧ i = .int .i64 k ∧ Hid (Wrt w base b v w' v' bs') ∧ Hid (bs' ++ ((ps.drop k).map wrText).flatten = bs ++ wrTexts ps)) (fun i _ => ps.length - (intOf i).toNat)
      case atStart => exact ⟨0, _, _, by omega, rfl, W1, by show _ = _; rw [List.drop_zero, wrTexts, List.append_assoc]⟩
      case round =>
        obtain ⟨k, v', bs', hk, rfl, hw, hbb⟩ := hrel
        by_cases hlt : k < ps.length
        · have hlt' : (k : Int) < (ps.length : Int) := by omega
          obtain ⟨a', cap', hu, hcs⟩ := (HS.out.keep hw.out.keep HA.out)
          cases hu
          obtain ⟨x, hx, hxb, hc⟩ := hcs k _ (List.getElem?_eq_getElem hlt)
          subst hx
          have hb2 := hbb.out
          rw [List.drop_eq_getElem_cons hlt, texts_cons] at hb2
          generalize ps[k] = p at *
          have hdl : bs'.length + (wrText p).length ≤ 140737488355328 := by
            have := congrArg List.length hb2
            have h2 := HL.out
            simp only [List.length_append] at this h2
            omega
          rw [sv] at hc
          have hd := sv_data p
          have hz := sv_size p
          generalize ByteArray.mk p.toArray = s at *
          subst hd
          have hps : s.size ≤ 140737488355328 := by
            rw [wrText, List.length_append, data_length] at hdl
            omega
          have HB2 := hid hb2
          have HDL := hid hdl
          have hbw := hw.out.base hbase
          obtain ⟨c0', f0'⟩ := wri_cells hw.out.wri (Keep.refl _ wr)
          clear hb2 hcs c0 f0 c2 f2 he hdl hz
          go_wp2_with (go_at_call 42; fail)
          go_at_call 42
          refine (appendText_any base v' bs' s wr hps hw.out.wri.2.2.1 HDL.out hbw).mono ?_
          rintro e w3 ⟨v3, rfl, g2, g3, g4⟩
          obtain ⟨a3, n3, k3, rfl⟩ := Own.sl g2
          obtain ⟨c3, f3⟩ := wri_cells hw.out.wri g3
          have W3 := hid (hw.out.store g2 g3 g4)
          clear g2 g3 g4
          go_wp2
          refine ⟨⟨k + 1, _, _, by omega, by go_num, W3, ?_⟩, by simp [intOf]; omega⟩
          show _ = _
          rw [List.append_assoc]; exact HB2.out
        · obtain rfl : k = ps.length := by omega
          have e := hbb.out
          rw [List.drop_length, List.map_nil, List.flatten_nil, List.append_nil] at e
          subst e
          go_wp2
          go_end0
          exact hw.out.post
    · have hp : WSt.put (.ok bs) (textsErr ps many most) (wrTexts ps) = .bad (textsErr ps many most) := by rw [WSt.put, if_neg he]
      rw [hp]
      clear hW hp
      go_wp2_with (first
        | (go_at_call 196; refine (textsFault_any _ ps many most hl _ HS.out).mono ?_; rintro e w' ⟨rfl, hw'⟩; rw [hw']; clear hw' w')
        | (go_at_call 188; refine (takes_no _ HW.out he).mono ?_; rintro e w1 ⟨rfl, k1, k2⟩; have K1 := hid k1; have K2 := hid k2; clear k1 k2))
      go_end0
      exact ⟨rfl, _, K1.out, Keep.ofBut K2.out (.inl rfl), fun k hk => by cases hk⟩

set_option maxRecDepth 100000 in
set_option maxHeartbeats 1000000 in
theorem wHashes_any (base b : Nat) (v : Value) (st : WSt) (u : Value) (ps : List (List UInt8)) (many : Int) (hl : ps.length ≤ maxLen) (w : World) (hs : Slc w u ps) (hap : Apart u (WS b v))
    (hW : Wri w base b v st) (hbase : base ≤ w.heap.size) (hlen : ∀ bs, st = .ok bs → bs.length + (wrHashes ps).length ≤ 140737488355328) :
    Calls Tryz.prog 187 #[.pointer (some ⟨b, 0, none⟩), u, .int .i64 many] w (WPost w base b v (st.put (hashesErr ps many) (wrHashes ps))) := by
  have HW := hid hW
  have HS := hid hs
  have HA := hid hap
  clear hap
  obtain ⟨a, cap, rfl, _⟩ := hs
  go_enter Tryz.func187, Tryz.ntmps187
  cases st with
  | bad f =>
    clear hW
    go_wp2_with (first
      | (go_at_call 194; refine (hashesFault_any _ ps many hl _ HS.out).mono ?_; rintro e w' ⟨rfl, hw'⟩; rw [hw']; clear hw' w')
      | (go_at_call 188; refine (takes_bad _ HW.out).mono ?_; rintro e w' ⟨rfl, hw'⟩; rw [hw']; clear hw' w'))
    go_end0
    exact ⟨rfl, v, HW.out, Keep.refl _ _, From.refl _ _⟩
  | ok bs =>
    by_cases he : hashesErr ps many = 0
    · have hp : WSt.put (.ok bs) (hashesErr ps many) (wrHashes ps) = .ok (bs ++ wrHashes ps) := by rw [WSt.put, if_pos he]
      rw [hp]
      have HL := hid (hlen bs rfl)
      obtain ⟨c0, f0⟩ := wri_cells hW (Keep.refl _ w)
      have hll : (ps.length : Int) ≤ 9223372036854775807 := by unfold maxLen at hl; omega
      have hd0 : bs.length + (digs ps.length).length ≤ 140737488355328 := by
        have := HL.out
        rw [wrHashes, List.length_append] at this
        omega
      clear hp hW hlen
      go_wp2_with (first
        | (go_at_call 194; refine (hashesFault_any _ ps many hl _ HS.out).mono ?_; rw [he]; rintro e w' ⟨rfl, hw'⟩; rw [hw']; clear hw' w')
        | (go_at_call 188; refine (takes_yes _ HW.out rfl).mono ?_; rintro e w' ⟨rfl, hw'⟩; rw [hw']; clear hw' w')
        | (go_at_call 72; fail))
      go_at_call 72
      refine (appendNum_any base v bs ps.length w (by omega) HW.out.2.2.1 hd0 hbase).mono ?_
      rintro e w2 ⟨v2, rfl, g2, g3, g4⟩
      obtain ⟨a2, n2, k2, rfl⟩ := Own.sl g2
      obtain ⟨c2, f2⟩ := wri_cells HW.out g3
      have W1 := hid ((Wrt.start HW.out).store g2 g3 g4)
      clear g2 g3 g4
      go_wp2
      go_loopw [26] (fun i w' => ∃ (k : Nat) (v' : Value) (bs' : List UInt8), k ≤ ps.length ∧ i = .int .i64 k ∧ Hid (Wrt w base b v w' v' bs') ∧ Hid (bs' ++ (ps.drop k).flatten = bs ++ wrHashes ps)) (fun i _ => ps.length - (intOf i).toNat)
      case atStart => exact ⟨0, _, _, by omega, rfl, W1, by show _ = _; rw [List.drop_zero, wrHashes, List.append_assoc]⟩
      case round =>
        obtain ⟨k, v', bs', hk, rfl, hw, hbb⟩ := hrel
        by_cases hlt : k < ps.length
        · have hlt' : (k : Int) < (ps.length : Int) := by omega
          obtain ⟨a', cap', hu, hcs⟩ := (HS.out.keep hw.out.keep HA.out)
          cases hu
          obtain ⟨x, hx, hxb, hc⟩ := hcs k _ (List.getElem?_eq_getElem hlt)
          subst hx
          have hb2 := hbb.out
          rw [List.drop_eq_getElem_cons hlt, List.flatten_cons] at hb2
          generalize ps[k] = p at *
          have hdl : bs'.length + p.length ≤ 140737488355328 := by
            have := congrArg List.length hb2
            have h2 := HL.out
            simp only [List.length_append] at this h2
            omega
          rw [sv] at hc
          have hd := sv_data p
          have hz := sv_size p
          generalize ByteArray.mk p.toArray = s at *
          subst hd
          have HB2 := hid hb2
          have hbw := hw.out.base hbase
          obtain ⟨c0', f0'⟩ := wri_cells hw.out.wri (Keep.refl _ wr)
          obtain ⟨v3, w3, hcc, g2, g3, g4⟩ := appS wr base v' bs' s hw.out.wri.2.2.1 (by rw [data_length] at hdl; exact hdl) hbw
          obtain ⟨a3, n3, k3, rfl⟩ := Own.sl g2
          obtain ⟨c3, f3⟩ := wri_cells hw.out.wri g3
          have W3 := hid (hw.out.store g2 g3 g4)
          clear g2 g3 g4 hb2 hcs c0 f0 c2 f2 he hdl hz
          go_wp2_with (at_builtin; go_must (refine Lib.wpList_append_run _ rfl _ _ 80 9 rfl _ _ rfl rfl _ _ hcc ?_))
          refine ⟨⟨k + 1, _, _, by omega, by go_num, W3, ?_⟩, by simp [intOf]; omega⟩
          show _ = _
          rw [List.append_assoc]; exact HB2.out
        · obtain rfl : k = ps.length := by omega
          have e := hbb.out
          rw [List.drop_length, List.flatten_nil, List.append_nil] at e
          subst e
          go_wp2
          go_end0
          exact hw.out.post
    · have hp : WSt.put (.ok bs) (hashesErr ps many) (wrHashes ps) = .bad (hashesErr ps many) := by rw [WSt.put, if_neg he]
      rw [hp]
      clear hW hp
      go_wp2_with (first
        | (go_at_call 194; refine (hashesFault_any _ ps many hl _ HS.out).mono ?_; rintro e w' ⟨rfl, hw'⟩; rw [hw']; clear hw' w')
        | (go_at_call 188; refine (takes_no _ HW.out he).mono ?_; rintro e w1 ⟨rfl, k1, k2⟩; have K1 := hid k1; have K2 := hid k2; clear k1 k2))
      go_end0
      exact ⟨rfl, _, K1.out, Keep.ofBut K2.out (.inl rfl), fun k hk => by cases hk⟩
end Go.Proofs.YtdhnjajloidohaaGreatDoor
