import Derived.Test.YtmhgdcfmfcjagaaGreatDoorPkG2
import Derived.Test.YtmhgdcfmfcjagaaGreatDoorPkMX2
namespace Go.Proofs.YtmhgdcfmfcjagaaGreatDoor
open Go.RowKit Cod
set_option maxRecDepth 100000 in
set_option maxHeartbeats 1000000 in
theorem wTexts_all (base b : Nat) (v : Value) (st : WSt) (u : Value) (ps : List (List UInt8)) (many most : Int) (hl : ps.length ≤ maxLen) (w : World) (hs : Slc w u ps) (hap : Apart u (WS b v))
    (hW : Wri w base b v st) (hbase : base ≤ w.heap.size) (hlen : textsErr ps many most = 0 → ∀ bs, st = .ok bs → bs.length + (wrTexts ps).length ≤ 140737488355328) :
    Calls Tryz.prog 167 #[.pointer (some ⟨b, 0, none⟩), u, .int .i64 many, .int .i64 most] w (WPost w base b v (st.put (textsErr ps many most) (wrTexts ps))) := by
  have HW := hid hW
  have HS := hid hs
  have HA := hid hap
  clear hap
  obtain ⟨a, cap, rfl, _⟩ := hs
  go_enter Tryz.func167, Tryz.ntmps167
  cases st with
  | bad f =>
    clear hW
    go_wp2_with (first
      | (go_at_call 172; refine (textsFault_any _ ps many most hl _ HS.out).mono ?_; rintro e w' ⟨rfl, hw'⟩; rw [hw']; clear hw' w')
      | (go_at_call 160; refine (takes_bad _ HW.out).mono ?_; rintro e w' ⟨rfl, hw'⟩; rw [hw']; clear hw' w'))
    go_end0
    exact ⟨rfl, v, HW.out, Keep.refl _ _, From.refl _ _⟩
  | ok bs =>
    by_cases he : textsErr ps many most = 0
    · have hp : WSt.put (.ok bs) (textsErr ps many most) (wrTexts ps) = .ok (bs ++ wrTexts ps) := by rw [WSt.put, if_pos he]
      rw [hp]
      have HL := hid (hlen he bs rfl)
      obtain ⟨c0, f0⟩ := wri_cells hW (Keep.refl _ w)
      have hll : (ps.length : Int) ≤ 9223372036854775807 := by unfold maxLen at hl; omega
      have hd0 : bs.length + (digs ps.length).length ≤ 140737488355328 := by
        have := HL.out
        rw [wrTexts, List.length_append] at this
        omega
      clear hp hW hlen
      go_wp2_with (first
        | (go_at_call 172; refine (textsFault_any _ ps many most hl _ HS.out).mono ?_; rw [he]; rintro e w' ⟨rfl, hw'⟩; rw [hw']; clear hw' w')
        | (go_at_call 160; refine (takes_yes _ HW.out rfl).mono ?_; rintro e w' ⟨rfl, hw'⟩; rw [hw']; clear hw' w')
        | (go_at_call 116; fail))
      go_at_call 116
      refine (appendNum_any base v bs ps.length w (by omega) HW.out.2.2.1 hd0 hbase).mono ?_
      rintro e w2 ⟨v2, rfl, g2, g3, g4⟩
      obtain ⟨a2, n2, k2, rfl⟩ := Own.sl g2
      obtain ⟨c2, f2⟩ := wri_cells HW.out g3
      have W1 := hid ((Wrt.start HW.out).store g2 g3 g4)
      clear g2 g3 g4
      go_wp2
      go_loopw [29] (fun i w' => ∃ (k : Nat) (v' : Value) (bs' : List UInt8), k ≤ ps.length ∧ i = .int .i64 k ∧ Hid (Wrt w base b v w' v' bs') ∧ Hid (bs' ++ ((ps.drop k).map wrText).flatten = bs ++ wrTexts ps)) (fun i _ => ps.length - (intOf i).toNat)
      case atStart => exact ⟨0, _, _, by omega, rfl, W1, by show _ = _; rw [List.drop_zero, wrTexts, List.append_assoc]⟩
      case round =>
        obtain ⟨k, v', bs', hk, rfl, hw, hbb⟩ := hrel
        by_cases hlt : k < ps.length
        · have hlt' : (k : Int) < (ps.length : Int) := by omega
          obtain ⟨a', cap', hu, hcs⟩ := (HS.out.keep hw.out.keep HA.out)
          cases hu
          obtain ⟨x, hx, hxb, hc⟩ := hcs k _ (List.getElem?_eq_getElem hlt)
          subst hx
          have hb2 := hbb.out
          rw [List.drop_eq_getElem_cons hlt, texts_cons] at hb2
          generalize ps[k] = p at *
          have hdl : bs'.length + (wrText p).length ≤ 140737488355328 := by
            have := congrArg List.length hb2
            have h2 := HL.out
            simp only [List.length_append] at this h2
            omega
          rw [sv] at hc
          have hd := sv_data p
          have hz := sv_size p
          generalize ByteArray.mk p.toArray = s at *
          subst hd
          have hps : s.size ≤ 140737488355328 := by
            rw [wrText, List.length_append, data_length] at hdl
            omega
          have HB2 := hid hb2
          have HDL := hid hdl
          have hbw := hw.out.base hbase
          obtain ⟨c0', f0'⟩ := wri_cells hw.out.wri (Keep.refl _ wr)
          clear hb2 hcs c0 f0 c2 f2 he hdl hz
          go_wp2_with (go_at_call 95; fail)
          go_at_call 95
          refine (appendText_any base v' bs' s wr hps hw.out.wri.2.2.1 HDL.out hbw).mono ?_
          rintro e w3 ⟨v3, rfl, g2, g3, g4⟩
          obtain ⟨a3, n3, k3, rfl⟩ := Own.sl g2
          obtain ⟨c3, f3⟩ := wri_cells hw.out.wri g3
          have W3 := hid (hw.out.store g2 g3 g4)
          clear g2 g3 g4
          go_wp2
          refine ⟨⟨k + 1, _, _, by omega, by go_num, W3, ?_⟩, by simp [intOf]; omega⟩
          show _ = _
          rw [List.append_assoc]; exact HB2.out
        · obtain rfl : k = ps.length := by omega
          have e := hbb.out
          rw [List.drop_length, List.map_nil, List.flatten_nil, List.append_nil] at e
          subst e
          go_wp2
          go_end0
          exact hw.out.post
    · have hp : WSt.put (.ok bs) (textsErr ps many most) (wrTexts ps) = .bad (textsErr ps many most) := by rw [WSt.put, if_neg he]
      rw [hp]
      clear hW hp
      go_wp2_with (first
        | (go_at_call 172; refine (textsFault_any _ ps many most hl _ HS.out).mono ?_; rintro e w' ⟨rfl, hw'⟩; rw [hw']; clear hw' w')
        | (go_at_call 160; refine (takes_no _ HW.out he).mono ?_; rintro e w1 ⟨rfl, k1, k2⟩; have K1 := hid k1; have K2 := hid k2; clear k1 k2))
      go_end0
      exact ⟨rfl, _, K1.out, Keep.ofBut K2.out (.inl rfl), fun k hk => by cases hk⟩
set_option maxRecDepth 100000 in
set_option maxHeartbeats 1000000 in
theorem wHashes_all (base b : Nat) (v : Value) (st : WSt) (u : Value) (ps : List (List UInt8)) (many : Int) (hl : ps.length ≤ maxLen) (w : World) (hs : Slc w u ps) (hap : Apart u (WS b v))
    (hW : Wri w base b v st) (hbase : base ≤ w.heap.size) (hlen : hashesErr ps many = 0 → ∀ bs, st = .ok bs → bs.length + (wrHashes ps).length ≤ 140737488355328) :
    Calls Tryz.prog 159 #[.pointer (some ⟨b, 0, none⟩), u, .int .i64 many] w (WPost w base b v (st.put (hashesErr ps many) (wrHashes ps))) := by
  have HW := hid hW
  have HS := hid hs
  have HA := hid hap
  clear hap
  obtain ⟨a, cap, rfl, _⟩ := hs
  go_enter Tryz.func159, Tryz.ntmps159
  cases st with
  | bad f =>
    clear hW
    go_wp2_with (first
      | (go_at_call 169; refine (hashesFault_any _ ps many hl _ HS.out).mono ?_; rintro e w' ⟨rfl, hw'⟩; rw [hw']; clear hw' w')
      | (go_at_call 160; refine (takes_bad _ HW.out).mono ?_; rintro e w' ⟨rfl, hw'⟩; rw [hw']; clear hw' w'))
    go_end0
    exact ⟨rfl, v, HW.out, Keep.refl _ _, From.refl _ _⟩
  | ok bs =>
    by_cases he : hashesErr ps many = 0
    · have hp : WSt.put (.ok bs) (hashesErr ps many) (wrHashes ps) = .ok (bs ++ wrHashes ps) := by rw [WSt.put, if_pos he]
      rw [hp]
      have HL := hid (hlen he bs rfl)
      obtain ⟨c0, f0⟩ := wri_cells hW (Keep.refl _ w)
      have hll : (ps.length : Int) ≤ 9223372036854775807 := by unfold maxLen at hl; omega
      have hd0 : bs.length + (digs ps.length).length ≤ 140737488355328 := by
        have := HL.out
        rw [wrHashes, List.length_append] at this
        omega
      clear hp hW hlen
      go_wp2_with (first
        | (go_at_call 169; refine (hashesFault_any _ ps many hl _ HS.out).mono ?_; rw [he]; rintro e w' ⟨rfl, hw'⟩; rw [hw']; clear hw' w')
        | (go_at_call 160; refine (takes_yes _ HW.out rfl).mono ?_; rintro e w' ⟨rfl, hw'⟩; rw [hw']; clear hw' w')
        | (go_at_call 116; fail))
      go_at_call 116
      refine (appendNum_any base v bs ps.length w (by omega) HW.out.2.2.1 hd0 hbase).mono ?_
      rintro e w2 ⟨v2, rfl, g2, g3, g4⟩
      obtain ⟨a2, n2, k2, rfl⟩ := Own.sl g2
      obtain ⟨c2, f2⟩ := wri_cells HW.out g3
      have W1 := hid ((Wrt.start HW.out).store g2 g3 g4)
      clear g2 g3 g4
      go_wp2
      go_loopw [26] (fun i w' => ∃ (k : Nat) (v' : Value) (bs' : List UInt8), k ≤ ps.length ∧ i = .int .i64 k ∧ Hid (Wrt w base b v w' v' bs') ∧ Hid (bs' ++ (ps.drop k).flatten = bs ++ wrHashes ps)) (fun i _ => ps.length - (intOf i).toNat)
      case atStart => exact ⟨0, _, _, by omega, rfl, W1, by show _ = _; rw [List.drop_zero, wrHashes, List.append_assoc]⟩
      case round =>
        obtain ⟨k, v', bs', hk, rfl, hw, hbb⟩ := hrel
        by_cases hlt : k < ps.length
        · have hlt' : (k : Int) < (ps.length : Int) := by omega
          obtain ⟨a', cap', hu, hcs⟩ := (HS.out.keep hw.out.keep HA.out)
          cases hu
          obtain ⟨x, hx, hxb, hc⟩ := hcs k _ (List.getElem?_eq_getElem hlt)
          subst hx
          have hb2 := hbb.out
          rw [List.drop_eq_getElem_cons hlt, List.flatten_cons] at hb2
          generalize ps[k] = p at *
          have hdl : bs'.length + p.length ≤ 140737488355328 := by
            have := congrArg List.length hb2
            have h2 := HL.out
            simp only [List.length_append] at this h2
            omega
          rw [sv] at hc
          have hd := sv_data p
          have hz := sv_size p
          generalize ByteArray.mk p.toArray = s at *
          subst hd
          have HB2 := hid hb2
          have hbw := hw.out.base hbase
          obtain ⟨c0', f0'⟩ := wri_cells hw.out.wri (Keep.refl _ wr)
          obtain ⟨v3, w3, hcc, g2, g3, g4⟩ := appS wr base v' bs' s hw.out.wri.2.2.1 (by rw [data_length] at hdl; exact hdl) hbw
          obtain ⟨a3, n3, k3, rfl⟩ := Own.sl g2
          obtain ⟨c3, f3⟩ := wri_cells hw.out.wri g3
          have W3 := hid (hw.out.store g2 g3 g4)
          clear g2 g3 g4 hb2 hcs c0 f0 c2 f2 he hdl hz
          go_wp2_with (at_builtin; go_must (refine Lib.wpList_append_run _ rfl _ _ 91 9 rfl _ _ rfl rfl _ _ hcc ?_))
          refine ⟨⟨k + 1, _, _, by omega, by go_num, W3, ?_⟩, by simp [intOf]; omega⟩
          show _ = _
          rw [List.append_assoc]; exact HB2.out
        · obtain rfl : k = ps.length := by omega
          have e := hbb.out
          rw [List.drop_length, List.flatten_nil, List.append_nil] at e
          subst e
          go_wp2
          go_end0
          exact hw.out.post
    · have hp : WSt.put (.ok bs) (hashesErr ps many) (wrHashes ps) = .bad (hashesErr ps many) := by rw [WSt.put, if_neg he]
      rw [hp]
      clear hW hp
      go_wp2_with (first
        | (go_at_call 169; refine (hashesFault_any _ ps many hl _ HS.out).mono ?_; rintro e w' ⟨rfl, hw'⟩; rw [hw']; clear hw' w')
        | (go_at_call 160; refine (takes_no _ HW.out he).mono ?_; rintro e w1 ⟨rfl, k1, k2⟩; have K1 := hid k1; have K2 := hid k2; clear k1 k2))
      go_end0
      exact ⟨rfl, _, K1.out, Keep.ofBut K2.out (.inl rfl), fun k hk => by cases hk⟩
end Go.Proofs.YtmhgdcfmfcjagaaGreatDoor

namespace Go.Proofs.YtmhgdcfmfcjagaaGreatDoor
open Go.RowKit Cod
namespace Msg
theorem wrTexts_len {ps : List (List UInt8)} (hn : ps.length ≤ 4096) (hp : ∀ p ∈ ps, p.length ≤ 4096) : (wrTexts ps).length ≤ 68719476736 := by
  have h9 : (digs ps.length).length ≤ 9 := digs_len9 (by omega)
  have key : ∀ qs : List (List UInt8), (∀ p ∈ qs, p.length ≤ 4096) → ((qs.map wrText).flatten).length ≤ qs.length * 4105 := fun qs => by
    induction qs with
    | nil => intro _; simp
    | cons q qs ih =>
      intro h
      have h1 := ih (fun p hp => h p (by simp [hp]))
      have h2 : q.length ≤ 4096 := h q (by simp)
      have h3 : (digs q.length).length ≤ 9 := digs_len9 (by omega)
      rw [List.map_cons, List.flatten_cons, List.length_append, wrText, List.length_append, List.length_cons]
      omega
  have := key ps hp
  rw [wrTexts, List.length_append]
  have := Nat.mul_le_mul_right 4105 hn
  omega
theorem texts_fit {ps : List (List UInt8)} {many most : Int} (h : textsErr ps many most = 0) (hm : many ≤ 4096) (ho : most ≤ 4096) : (wrTexts ps).length ≤ 68719476736 := by
  rw [textsErr] at h
  split at h
  · cases h
  split at h
  · cases h
  split at h
  · rename_i a1 a2 a3
    exact wrTexts_len (by omega) (fun p hp => by have := a3 p hp; omega)
  · cases h
theorem wrRise_len : ∀ (l : List Nat) (least : Nat), (∀ n ∈ l, n ≤ 9223372036854775807) → (wrRise least l).length ≤ l.length * 10
  | [], _, _ => Nat.zero_le _
  | n :: l, least, h => by
    have h1 := wrRise_len l (n + 1) (fun m hm => h m (by simp [hm]))
    have h2 : (digs (n - least)).length ≤ 9 + 1 := digs_len 9 (n - least) (by have := h n (by simp); have e : 128 ^ (9 + 1) = 1180591620717411303424 := (by decide); omega)
    rw [wrRise_cons, List.length_append, List.length_cons]
    omega
theorem rising_fit {l : List Int} {many : Int} (hl : ∀ c ∈ l, -9223372036854775808 ≤ c ∧ c ≤ 9223372036854775807) (h : arSz l many = true) (hm : many ≤ 4096) : (wrRising (l.map Int.toNat)).length ≤ 68719476736 := by
  rw [arSz, Bool.and_eq_true] at h
  have hw := (wi_iff.1 h.1).2
  have h9 : (digs (l.map Int.toNat).length).length ≤ 9 := digs_len9 (by rw [List.length_map]; omega)
  have := wrRise_len (l.map Int.toNat) 0 (fun n hn => by
    obtain ⟨c, hc, rfl⟩ := List.mem_map.1 hn
    have := (hl c hc).2
    omega)
  rw [List.length_map] at this
  rw [wrRising, List.length_append]
  omega
theorem hashes_fit {ps : List (List UInt8)} (h : hashesErr ps 32768 = 0) : (wrHashes ps).length ≤ 68719476736 := by
  rw [hashesErr] at h
  split at h
  · cases h
  split at h
  · cases h
  split at h
  · rename_i a1 a2 a3
    have h9 : (digs ps.length).length ≤ 9 := digs_len9 (by omega)
    have key : ∀ qs : List (List UInt8), (∀ p ∈ qs, p.length = 32) → qs.flatten.length = qs.length * 32 := fun qs => by
      induction qs with
      | nil => intro _; simp
      | cons q qs ih =>
        intro h
        have h1 := ih (fun p hp => h p (by simp [hp]))
        have h2 : q.length = 32 := h q (by simp)
        rw [List.flatten_cons, List.length_append, List.length_cons]
        omega
    have := key ps a3
    rw [wrHashes, List.length_append]
    omega
  · cases h
set_option maxRecDepth 100000 in
set_option maxHeartbeats 400000 in
theorem layHashes_all {base b c : Nat} {v : Value} {s : LS} (u : Value) (ps : List (List UInt8)) (hl : ps.length ≤ maxLen) (w : World) (hs : Slc w u ps) (hu : Lw base u) (h : Ly w base b c v s) (hm : hashesErr ps 32768 = 0 → ∀ bs, s.1 = .ok bs → bs.length + (wrHashes ps).length ≤ 140737488355328) :
    Calls Tryz.prog 151 #[.pointer (some ⟨c, 0, none⟩), u] w fun e w' => e = .returned u ∧ Lo w base b c v (lHashes ps s) w' := by
  have d0 := h.c0
  have i3 := wHashes_all base b v s.1 u ps 32768 hl w hs (hu.apart h) h.wri h.base hm
  rw [lHashes, lif_yes rfl]
  obtain ⟨a, cap, rfl, _⟩ := hs
  have H1 := hid h
  clear h hm hu
  go_enter Tryz.func151, Tryz.ntmps151
  go_wp2_with (go_at_call 159; refine i3.mono ?_; intro e w2 p; obtain ⟨hr, hl⟩ := H1.out.wrote p; subst hr; have HL := hid hl; clear hl p)
  go_ret
  exact ⟨rfl, HL.out⟩
set_option maxRecDepth 100000 in
set_option maxHeartbeats 400000 in
theorem layTexts_all {base b c : Nat} {v : Value} {s : LS} (u : Value) (ps : List (List UInt8)) (least many most : Int) (hl : ps.length ≤ maxLen) (w : World) (hs : Slc w u ps) (hu : Lw base u) (h : Ly w base b c v s) (hm : textsErr ps many most = 0 → ∀ bs, s.1 = .ok bs → bs.length + (wrTexts ps).length ≤ 140737488355328) :
    Calls Tryz.prog 157 #[.pointer (some ⟨c, 0, none⟩), u, .int .i64 least, .int .i64 many, .int .i64 most] w fun e w' => e = .returned u ∧ Lo w base b c v (lTexts ps least many most s) w' := by
  obtain ⟨a, cap, hu1, hs1⟩ := hs
  subst hu1
  have hs : Slc w (.slice a ps.length cap) ps := ⟨a, cap, rfl, hs1⟩
  by_cases hg : least ≤ (ps.length : Int)
  · have hw : decide (least ≤ (ps.length : Int)) = true := decide_eq_true hg
    have i2 := takes_any true w h
    rw [lTexts, lif_yes hw]
    have HM := hid hm
    have HS := hid hs
    have HU := hid hu
    have HY := hid h
    clear h hm hs hs1 hu hw
    go_enter Tryz.func157, Tryz.ntmps157
    go_wp2_with (first
      | (go_at_call 60; refine i2.mono ?_; rintro e w1 ⟨rfl, h1, h2⟩; have h1 := h1.yes; have d0 := h1.c0; have i3 := wTexts_all base b v s.1 _ ps many most hl w1 (HU.out.slc HS.out (But.bl' HY.out h2)) (HU.out.apart h1) h1.wri h1.base HM.out; have H1 := hid h1; have H2 := hid h2; clear h1 h2)
      | (go_at_call 167; refine i3.mono ?_; intro e w2 p; obtain ⟨hr, hl⟩ := Lo.mk' H2.out H1.out p; subst hr; have HL := hid hl; clear hl p))
    go_ret
    exact ⟨rfl, HL.out⟩
  · have hw : decide (least ≤ (ps.length : Int)) = false := decide_eq_false hg
    have i2 := takes_any false w h
    rw [lTexts, lif_no hw]
    clear h hm hs hs1 hu hw
    go_enter Tryz.func157, Tryz.ntmps157
    go_wp2_with (go_at_call 60; refine i2.mono ?_; rintro e w1 ⟨rfl, h1, h2⟩; have H1 := hid (Lo.no h2 h1); clear h1 h2)
    go_ret
    exact ⟨rfl, H1.out⟩
end Msg
end Go.Proofs.YtmhgdcfmfcjagaaGreatDoor

namespace Go.Proofs.YtmhgdcfmfcjagaaGreatDoor
open Go.RowKit Cod
namespace Msg
def aqArr (y : Value) (x : Ask) (ul ue ua : Value) (t : Ask) (tl te ta : Value) : Array Value :=
  #[y, .int .i64 x.kind, .int .i64 x.a, .int .i64 x.b, .int .i64 x.size, ul, ue, ua, .int .i64 t.kind, .int .i64 t.a, .int .i64 t.b, .int .i64 t.size, tl, te, ta]
def lay (c : Nat) : Value := .iface 96 (.pointer (some ⟨c, 0, none⟩))
structure Qa (w : World) (base b c d : Nat) (v : Value) (s : LS) (x : Ask) (ul ue ua : Value) (t : Ask) (tl te ta : Value) : Prop where
  ly : Ly w base b c v s
  row : w.heap[d]? = some (.cells (aqArr (lay c) x ul ue ua t tl te ta) 100 (0, 0))
  dn : ¬ LSet b c v d
  ge : base ≤ d
  l1 : Lw base ul
  l2 : Lw base ue
  s1 : SlcI w ul x.list
  s2 : Slc w ue x.ent
  s3 : ∃ p q, ua = .slice p x.n q
  t1 : ∃ p q, tl = .slice p t.list.length q
  t2 : ∃ p q, te = .slice p t.ent.length q
  t3 : ∃ p q, ta = .slice p t.n q
def QSet (b c d : Nat) (v : Value) : Nat → Prop := fun k => k = d ∨ LSet b c v k
def FPost (w : World) (base b c d : Nat) (v : Value) (s : LS) (x : Ask) (ul ue ua : Value) (t : Ask) (w' : World) : Prop :=
  ∃ v' tl te ta, Qa w' base b c d v' s x ul ue ua t tl te ta ∧ Keep (QSet b c d v) w w' ∧ From w v v'
theorem Qa.lt {w : World} {base b c d : Nat} {v : Value} {s : LS} {x : Ask} {ul ue ua : Value} {t : Ask} {tl te ta : Value} (h : Qa w base b c d v s x ul ue ua t tl te ta) : d < w.heap.size := lt_of_heap h.row
theorem row_set {w : World} {d : Nat} {cs ds : Array Value} {T : TypeId} (o : Nat) (u : Value) (h : w.heap[d]? = some (.cells cs T (0, 0))) (hr : cs.setIfInBounds o u = ds) : (w.setCell ⟨d, o, none⟩ u).heap[d]? = some (.cells ds T (0, 0)) := by
  rw [heap_setCell_same _ _ _ _ _ _ h, hr]
theorem Qa.row2 {w w2 : World} {base b c d : Nat} {v : Value} {s s' : LS} {x : Ask} {ul ue ua : Value} {t : Ask} {tl te ta : Value} (h : Qa w base b c d v s x ul ue ua t tl te ta) (hl : Lo w base b c v s' w2) : w2.heap[d]? = some (.cells (aqArr (lay c) x ul ue ua t tl te ta) 100 (0, 0)) := by
  obtain ⟨v', h1, h2, h3⟩ := hl
  exact (h2.block d h.lt h.dn).trans h.row
theorem Qa.put {w w2 : World} {base b c d : Nat} {v : Value} {s s' : LS} {x : Ask} {ul ue ua : Value} {t : Ask} {tl te ta : Value} (h : Qa w base b c d v s x ul ue ua t tl te ta) (hl : Lo w base b c v s' w2)
    (o : Nat) (u : Value) (t' : Ask) (tl' te' ta' : Value) (hr : (aqArr (lay c) x ul ue ua t tl te ta).setIfInBounds o u = aqArr (lay c) x ul ue ua t' tl' te' ta')
    (t1 : ∃ p q, tl' = .slice p t'.list.length q) (t2 : ∃ p q, te' = .slice p t'.ent.length q) (t3 : ∃ p q, ta' = .slice p t'.n q) :
    FPost w base b c d v s' x ul ue ua t' (w2.setCell ⟨d, o, none⟩ u) := by
  have hrow := h.row2 hl
  obtain ⟨v', h1, h2, h3⟩ := hl
  have hd := h.lt
  have hdn : ¬ LSet b c v' d := fun e => by
    rcases e with e | e | e
    · exact h.dn (.inl e)
    · exact h.dn (.inr (.inl e))
    · rcases h3 d e with g | g
      · exact h.dn (.inr (.inr g))
      · omega
  have k2 : Keep (fun k => k = d) w2 (w2.setCell ⟨d, o, none⟩ u) := Keep.ofBut ((But.refl d w2).setCell o u) rfl
  have kk : Keep (QSet b c d v) w (w2.setCell ⟨d, o, none⟩ u) := (h2.mono (T := QSet b c d v) fun _ _ e => .inr e).setCell d o u (.inl rfl)
  have bl : Below base w (w2.setCell ⟨d, o, none⟩ u) := kk.below h.ly.base fun k hk e => by
    rcases e with e | e
    · have := h.ge; omega
    · have := (h.ly.ge' k e).1; omega
  exact ⟨v', tl', te', ta', ⟨h1.set k2 (fun k hk e => hdn (e ▸ hk)), row_set o u hrow hr, hdn, h.ge, h.l1, h.l2, h.l1.slcI h.s1 bl, h.l2.slc h.s2 bl, h.s3, t1, t2, t3⟩, kk, h3⟩
theorem Lo.drew {w w2 : World} {base b c : Nat} {v : Value} {s : LS} (h : Lo w.drew base b c v s w2) : Lo w base b c v s w2 := Lo.step (Keep.refl _ _).drew (From.refl _ _) h
theorem Ly.drew {w : World} {base b c : Nat} {v : Value} {s : LS} (h : Ly w base b c v s) : Ly w.drew base b c v s := h.below (Below.refl _ w).drew
theorem Slc.drew {w : World} {v : Value} {ps : List (List UInt8)} (h : Slc w v ps) : Slc w.drew v ps := h.below (Below.refl _ w).drew (Nat.le_refl _)
theorem SlcI.drew {w : World} {v : Value} {ps : List Int} (h : SlcI w v ps) : SlcI w.drew v ps := h.keep (S := fun _ => False) (Keep.refl _ w).drew (fun _ _ _ _ _ e => e)
structure Fit (x : Ask) : Prop where
  k1 : -9223372036854775808 ≤ x.kind ∧ x.kind ≤ 9223372036854775807
  k2 : -9223372036854775808 ≤ x.a ∧ x.a ≤ 9223372036854775807
  k3 : -9223372036854775808 ≤ x.b ∧ x.b ≤ 9223372036854775807
  k4 : -9223372036854775808 ≤ x.size ∧ x.size ≤ 9223372036854775807
  li : ∀ c ∈ x.list, -9223372036854775808 ≤ c ∧ c ≤ 9223372036854775807
  ll : x.list.length ≤ maxLen
  el : x.ent.length ≤ maxLen
theorem m_laying_mark (a : Addr) (w : World) : (method 342 96 (.pointer (some a)) "scrivener/message.mark").run Tryz.prog w = .ok (152, .pointer (some a)) w := by kernel_rfl
theorem m_taking_mark (a : Addr) (w : World) : (method 342 127 (.pointer (some a)) "scrivener/message.mark").run Tryz.prog w = .ok (176, .pointer (some a)) w := by kernel_rfl
theorem m_laying_size (a : Addr) (w : World) : (method 342 96 (.pointer (some a)) "scrivener/message.size").run Tryz.prog w = .ok (155, .pointer (some a)) w := by kernel_rfl
theorem m_taking_size (a : Addr) (w : World) : (method 342 127 (.pointer (some a)) "scrivener/message.size").run Tryz.prog w = .ok (179, .pointer (some a)) w := by kernel_rfl
theorem m_laying_sizes (a : Addr) (w : World) : (method 342 96 (.pointer (some a)) "scrivener/message.sizes").run Tryz.prog w = .ok (156, .pointer (some a)) w := by kernel_rfl
theorem m_taking_sizes (a : Addr) (w : World) : (method 342 127 (.pointer (some a)) "scrivener/message.sizes").run Tryz.prog w = .ok (180, .pointer (some a)) w := by kernel_rfl
theorem m_laying_texts (a : Addr) (w : World) : (method 342 96 (.pointer (some a)) "scrivener/message.texts").run Tryz.prog w = .ok (157, .pointer (some a)) w := by kernel_rfl
theorem m_taking_texts (a : Addr) (w : World) : (method 342 127 (.pointer (some a)) "scrivener/message.texts").run Tryz.prog w = .ok (181, .pointer (some a)) w := by kernel_rfl
theorem m_laying_hashes (a : Addr) (w : World) : (method 342 96 (.pointer (some a)) "scrivener/message.hashes").run Tryz.prog w = .ok (151, .pointer (some a)) w := by kernel_rfl
theorem m_taking_hashes (a : Addr) (w : World) : (method 342 127 (.pointer (some a)) "scrivener/message.hashes").run Tryz.prog w = .ok (175, .pointer (some a)) w := by kernel_rfl
theorem m_laying_root (a : Addr) (w : World) : (method 342 96 (.pointer (some a)) "scrivener/message.root").run Tryz.prog w = .ok (154, .pointer (some a)) w := by kernel_rfl
theorem m_taking_root (a : Addr) (w : World) : (method 342 127 (.pointer (some a)) "scrivener/message.root").run Tryz.prog w = .ok (178, .pointer (some a)) w := by kernel_rfl
theorem m_laying_asks (a : Addr) (w : World) : (method 342 96 (.pointer (some a)) "scrivener/message.asks").run Tryz.prog w = .ok (150, .pointer (some a)) w := by kernel_rfl
theorem m_taking_asks (a : Addr) (w : World) : (method 342 127 (.pointer (some a)) "scrivener/message.asks").run Tryz.prog w = .ok (173, .pointer (some a)) w := by kernel_rfl
theorem m_laying_parts (a : Addr) (w : World) : (method 342 96 (.pointer (some a)) "scrivener/message.parts").run Tryz.prog w = .ok (153, .pointer (some a)) w := by kernel_rfl
theorem m_taking_parts (a : Addr) (w : World) : (method 342 127 (.pointer (some a)) "scrivener/message.parts").run Tryz.prog w = .ok (177, .pointer (some a)) w := by kernel_rfl
set_option maxRecDepth 100000 in
set_option maxHeartbeats 2000000 in
theorem f_a {w : World} {base b c d : Nat} {v : Value} {s : LS} {x : Ask} {ul ue ua : Value} {t : Ask} {tl te ta : Value} (h : Qa w base b c d v s x ul ue ua t tl te ta) (hf : Fit x) (hm : Sm s 140600000000000) (da : LS → LS) :
    Calls Tryz.prog 107 #[.pointer (some ⟨d, 0, none⟩)] w fun e w' => e = .returned (.tuple #[]) ∧ FPost w base b c d v (lFq x da .a s) x ul ue ua (setF x .a t) w' := by
  have c0 : w.cell? ⟨d, 0, none⟩ = some (lay c) := by rw [cell_of_row _ _ _ _ _ _ h.row]; rfl
  have c4 : w.cell? ⟨d, 2, none⟩ = some (.int .i64 x.a) := by rw [cell_of_row _ _ _ _ _ _ h.row]; rfl
  have i1 := laySize_any x.a hf.k2.1 hf.k2.2 w.drew h.ly.drew (hm.mono (by omega))
  rw [lay] at c0
  have mm := m_laying_size ⟨c, 0, none⟩
  have HQ := hid h
  clear h hf hm
  go_enter Tryz.func107, Tryz.ntmps107
  go_region_held3 (fun w' => w'.cell? ⟨d, 0, none⟩ = some (.iface 96 (.pointer (some ⟨c, 0, none⟩))) ∧ w'.cell? ⟨d, 2, none⟩ = some (.int .i64 x.a)) (first | exact ⟨c0, c4⟩ | exact S2 | exact S3) (first | (go_at_call 155; (with_reducible refine i1.mono ?_); rintro e w2 ⟨rfl, hl⟩; have hl := hl.drew; have hrow := HQ.out.row2 hl; have g0 : w2.frozen? ⟨d, 9, none⟩ = false := frozen_of_row _ _ _ _ _ hrow; have e0 : w2.cell? ⟨d, 9, none⟩ = some (.int .i64 t.a) := (by rw [cell_of_row _ _ _ _ _ _ hrow]; rfl); have S2 : w2.cell? ⟨d, 0, none⟩ = some (lay c) ∧ w2.cell? ⟨d, 2, none⟩ = some (.int .i64 x.a) := ⟨by rw [cell_of_row _ _ _ _ _ _ hrow]; rfl, by rw [cell_of_row _ _ _ _ _ _ hrow]; rfl⟩; have hrow3 := row_set 9 (.int .i64 x.a) hrow rfl; have S3 : (w2.setCell ⟨d, 9, none⟩ (.int .i64 x.a)).cell? ⟨d, 0, none⟩ = some (lay c) ∧ (w2.setCell ⟨d, 9, none⟩ (.int .i64 x.a)).cell? ⟨d, 2, none⟩ = some (.int .i64 x.a) := ⟨by rw [cell_of_row _ _ _ _ _ _ hrow3]; rfl, by rw [cell_of_row _ _ _ _ _ _ hrow3]; rfl⟩; rw [lay] at S2 S3; have HL := hid hl; clear hl hrow hrow3))
  go_end0
  exact ⟨rfl, HQ.out.put HL.out 9 _ _ _ _ _ rfl HQ.out.t1 HQ.out.t2 HQ.out.t3⟩
set_option maxRecDepth 100000 in
set_option maxHeartbeats 2000000 in
theorem f_b {w : World} {base b c d : Nat} {v : Value} {s : LS} {x : Ask} {ul ue ua : Value} {t : Ask} {tl te ta : Value} (h : Qa w base b c d v s x ul ue ua t tl te ta) (hf : Fit x) (hm : Sm s 140600000000000) (da : LS → LS) :
    Calls Tryz.prog 110 #[.pointer (some ⟨d, 0, none⟩)] w fun e w' => e = .returned (.tuple #[]) ∧ FPost w base b c d v (lFq x da .b s) x ul ue ua (setF x .b t) w' := by
  have c0 : w.cell? ⟨d, 0, none⟩ = some (lay c) := by rw [cell_of_row _ _ _ _ _ _ h.row]; rfl
  have c4 : w.cell? ⟨d, 3, none⟩ = some (.int .i64 x.b) := by rw [cell_of_row _ _ _ _ _ _ h.row]; rfl
  have i1 := laySize_any x.b hf.k3.1 hf.k3.2 w.drew h.ly.drew (hm.mono (by omega))
  rw [lay] at c0
  have mm := m_laying_size ⟨c, 0, none⟩
  have HQ := hid h
  clear h hf hm
  go_enter Tryz.func110, Tryz.ntmps110
  go_region_held3 (fun w' => w'.cell? ⟨d, 0, none⟩ = some (.iface 96 (.pointer (some ⟨c, 0, none⟩))) ∧ w'.cell? ⟨d, 3, none⟩ = some (.int .i64 x.b)) (first | exact ⟨c0, c4⟩ | exact S2 | exact S3) (first | (go_at_call 155; (with_reducible refine i1.mono ?_); rintro e w2 ⟨rfl, hl⟩; have hl := hl.drew; have hrow := HQ.out.row2 hl; have g0 : w2.frozen? ⟨d, 10, none⟩ = false := frozen_of_row _ _ _ _ _ hrow; have e0 : w2.cell? ⟨d, 10, none⟩ = some (.int .i64 t.b) := (by rw [cell_of_row _ _ _ _ _ _ hrow]; rfl); have S2 : w2.cell? ⟨d, 0, none⟩ = some (lay c) ∧ w2.cell? ⟨d, 3, none⟩ = some (.int .i64 x.b) := ⟨by rw [cell_of_row _ _ _ _ _ _ hrow]; rfl, by rw [cell_of_row _ _ _ _ _ _ hrow]; rfl⟩; have hrow3 := row_set 10 (.int .i64 x.b) hrow rfl; have S3 : (w2.setCell ⟨d, 10, none⟩ (.int .i64 x.b)).cell? ⟨d, 0, none⟩ = some (lay c) ∧ (w2.setCell ⟨d, 10, none⟩ (.int .i64 x.b)).cell? ⟨d, 3, none⟩ = some (.int .i64 x.b) := ⟨by rw [cell_of_row _ _ _ _ _ _ hrow3]; rfl, by rw [cell_of_row _ _ _ _ _ _ hrow3]; rfl⟩; rw [lay] at S2 S3; have HL := hid hl; clear hl hrow hrow3))
  go_end0
  exact ⟨rfl, HQ.out.put HL.out 10 _ _ _ _ _ rfl HQ.out.t1 HQ.out.t2 HQ.out.t3⟩
set_option maxRecDepth 100000 in
set_option maxHeartbeats 2000000 in
theorem f_size {w : World} {base b c d : Nat} {v : Value} {s : LS} {x : Ask} {ul ue ua : Value} {t : Ask} {tl te ta : Value} (h : Qa w base b c d v s x ul ue ua t tl te ta) (hf : Fit x) (hm : Sm s 140600000000000) (da : LS → LS) :
    Calls Tryz.prog 106 #[.pointer (some ⟨d, 0, none⟩)] w fun e w' => e = .returned (.tuple #[]) ∧ FPost w base b c d v (lFq x da .size s) x ul ue ua (setF x .size t) w' := by
  have c0 : w.cell? ⟨d, 0, none⟩ = some (lay c) := by rw [cell_of_row _ _ _ _ _ _ h.row]; rfl
  have c4 : w.cell? ⟨d, 4, none⟩ = some (.int .i64 x.size) := by rw [cell_of_row _ _ _ _ _ _ h.row]; rfl
  have i1 := laySize_any x.size hf.k4.1 hf.k4.2 w.drew h.ly.drew (hm.mono (by omega))
  rw [lay] at c0
  have mm := m_laying_size ⟨c, 0, none⟩
  have HQ := hid h
  clear h hf hm
  go_enter Tryz.func106, Tryz.ntmps106
  go_region_held3 (fun w' => w'.cell? ⟨d, 0, none⟩ = some (.iface 96 (.pointer (some ⟨c, 0, none⟩))) ∧ w'.cell? ⟨d, 4, none⟩ = some (.int .i64 x.size)) (first | exact ⟨c0, c4⟩ | exact S2 | exact S3) (first | (go_at_call 155; (with_reducible refine i1.mono ?_); rintro e w2 ⟨rfl, hl⟩; have hl := hl.drew; have hrow := HQ.out.row2 hl; have g0 : w2.frozen? ⟨d, 11, none⟩ = false := frozen_of_row _ _ _ _ _ hrow; have e0 : w2.cell? ⟨d, 11, none⟩ = some (.int .i64 t.size) := (by rw [cell_of_row _ _ _ _ _ _ hrow]; rfl); have S2 : w2.cell? ⟨d, 0, none⟩ = some (lay c) ∧ w2.cell? ⟨d, 4, none⟩ = some (.int .i64 x.size) := ⟨by rw [cell_of_row _ _ _ _ _ _ hrow]; rfl, by rw [cell_of_row _ _ _ _ _ _ hrow]; rfl⟩; have hrow3 := row_set 11 (.int .i64 x.size) hrow rfl; have S3 : (w2.setCell ⟨d, 11, none⟩ (.int .i64 x.size)).cell? ⟨d, 0, none⟩ = some (lay c) ∧ (w2.setCell ⟨d, 11, none⟩ (.int .i64 x.size)).cell? ⟨d, 4, none⟩ = some (.int .i64 x.size) := ⟨by rw [cell_of_row _ _ _ _ _ _ hrow3]; rfl, by rw [cell_of_row _ _ _ _ _ _ hrow3]; rfl⟩; rw [lay] at S2 S3; have HL := hid hl; clear hl hrow hrow3))
  go_end0
  exact ⟨rfl, HQ.out.put HL.out 11 _ _ _ _ _ rfl HQ.out.t1 HQ.out.t2 HQ.out.t3⟩
set_option maxRecDepth 100000 in
set_option maxHeartbeats 2000000 in
theorem f_indices {w : World} {base b c d : Nat} {v : Value} {s : LS} {x : Ask} {ul ue ua : Value} {t : Ask} {tl te ta : Value} (h : Qa w base b c d v s x ul ue ua t tl te ta) (hf : Fit x) (hm : Sm s 140600000000000) (da : LS → LS) :
    Calls Tryz.prog 108 #[.pointer (some ⟨d, 0, none⟩)] w fun e w' => e = .returned (.tuple #[]) ∧ FPost w base b c d v (lFq x da .indices s) x ul ue ua (setF x .indices t) w' := by
  obtain ⟨p1, q1, rfl, _⟩ := id h.s1
  have c0 : w.cell? ⟨d, 0, none⟩ = some (lay c) := by rw [cell_of_row _ _ _ _ _ _ h.row]; rfl
  have c4 : w.cell? ⟨d, 5, none⟩ = some (.slice p1 x.list.length q1) := by rw [cell_of_row _ _ _ _ _ _ h.row]; rfl
  have i1 := laySizes_all _ x.list 256 hf.li hf.ll w.drew (SlcI.drew h.s1) h.l1 h.ly.drew (fun e0 bs e => by have := hm bs e; have := rising_fit hf.li e0 (by omega); omega)
  rw [lay] at c0
  have mm := m_laying_sizes ⟨c, 0, none⟩
  have HQ := hid h
  clear h hf hm
  go_enter Tryz.func108, Tryz.ntmps108
  go_region_held3 (fun w' => w'.cell? ⟨d, 0, none⟩ = some (.iface 96 (.pointer (some ⟨c, 0, none⟩))) ∧ w'.cell? ⟨d, 5, none⟩ = some (.slice p1 x.list.length q1)) (first | exact ⟨c0, c4⟩ | exact S2 | exact S3) (first | (go_at_call 156; (with_reducible refine i1.mono ?_); rintro e w2 ⟨rfl, hl⟩; have hl := hl.drew; have hrow := HQ.out.row2 hl; have g0 : w2.frozen? ⟨d, 12, none⟩ = false := frozen_of_row _ _ _ _ _ hrow; have e0 : w2.cell? ⟨d, 12, none⟩ = some (tl) := (by rw [cell_of_row _ _ _ _ _ _ hrow]; rfl); have S2 : w2.cell? ⟨d, 0, none⟩ = some (lay c) ∧ w2.cell? ⟨d, 5, none⟩ = some (.slice p1 x.list.length q1) := ⟨by rw [cell_of_row _ _ _ _ _ _ hrow]; rfl, by rw [cell_of_row _ _ _ _ _ _ hrow]; rfl⟩; have hrow3 := row_set 12 (.slice p1 x.list.length q1) hrow rfl; have S3 : (w2.setCell ⟨d, 12, none⟩ (.slice p1 x.list.length q1)).cell? ⟨d, 0, none⟩ = some (lay c) ∧ (w2.setCell ⟨d, 12, none⟩ (.slice p1 x.list.length q1)).cell? ⟨d, 5, none⟩ = some (.slice p1 x.list.length q1) := ⟨by rw [cell_of_row _ _ _ _ _ _ hrow3]; rfl, by rw [cell_of_row _ _ _ _ _ _ hrow3]; rfl⟩; rw [lay] at S2 S3; have HL := hid hl; clear hl hrow hrow3))
  go_end0
  exact ⟨rfl, HQ.out.put HL.out 12 _ _ _ _ _ rfl ⟨_, _, rfl⟩ HQ.out.t2 HQ.out.t3⟩
set_option maxRecDepth 100000 in
set_option maxHeartbeats 2000000 in
theorem f_heads {w : World} {base b c d : Nat} {v : Value} {s : LS} {x : Ask} {ul ue ua : Value} {t : Ask} {tl te ta : Value} (h : Qa w base b c d v s x ul ue ua t tl te ta) (hf : Fit x) (hm : Sm s 140600000000000) (da : LS → LS) :
    Calls Tryz.prog 109 #[.pointer (some ⟨d, 0, none⟩)] w fun e w' => e = .returned (.tuple #[]) ∧ FPost w base b c d v (lFq x da .heads s) x ul ue ua (setF x .heads t) w' := by
  obtain ⟨p1, q1, rfl, _⟩ := id h.s1
  have c0 : w.cell? ⟨d, 0, none⟩ = some (lay c) := by rw [cell_of_row _ _ _ _ _ _ h.row]; rfl
  have c4 : w.cell? ⟨d, 5, none⟩ = some (.slice p1 x.list.length q1) := by rw [cell_of_row _ _ _ _ _ _ h.row]; rfl
  have i1 := laySizes_all _ x.list 64 hf.li hf.ll w.drew (SlcI.drew h.s1) h.l1 h.ly.drew (fun e0 bs e => by have := hm bs e; have := rising_fit hf.li e0 (by omega); omega)
  rw [lay] at c0
  have mm := m_laying_sizes ⟨c, 0, none⟩
  have HQ := hid h
  clear h hf hm
  go_enter Tryz.func109, Tryz.ntmps109
  go_region_held3 (fun w' => w'.cell? ⟨d, 0, none⟩ = some (.iface 96 (.pointer (some ⟨c, 0, none⟩))) ∧ w'.cell? ⟨d, 5, none⟩ = some (.slice p1 x.list.length q1)) (first | exact ⟨c0, c4⟩ | exact S2 | exact S3) (first | (go_at_call 156; (with_reducible refine i1.mono ?_); rintro e w2 ⟨rfl, hl⟩; have hl := hl.drew; have hrow := HQ.out.row2 hl; have g0 : w2.frozen? ⟨d, 12, none⟩ = false := frozen_of_row _ _ _ _ _ hrow; have e0 : w2.cell? ⟨d, 12, none⟩ = some (tl) := (by rw [cell_of_row _ _ _ _ _ _ hrow]; rfl); have S2 : w2.cell? ⟨d, 0, none⟩ = some (lay c) ∧ w2.cell? ⟨d, 5, none⟩ = some (.slice p1 x.list.length q1) := ⟨by rw [cell_of_row _ _ _ _ _ _ hrow]; rfl, by rw [cell_of_row _ _ _ _ _ _ hrow]; rfl⟩; have hrow3 := row_set 12 (.slice p1 x.list.length q1) hrow rfl; have S3 : (w2.setCell ⟨d, 12, none⟩ (.slice p1 x.list.length q1)).cell? ⟨d, 0, none⟩ = some (lay c) ∧ (w2.setCell ⟨d, 12, none⟩ (.slice p1 x.list.length q1)).cell? ⟨d, 5, none⟩ = some (.slice p1 x.list.length q1) := ⟨by rw [cell_of_row _ _ _ _ _ _ hrow3]; rfl, by rw [cell_of_row _ _ _ _ _ _ hrow3]; rfl⟩; rw [lay] at S2 S3; have HL := hid hl; clear hl hrow hrow3))
  go_end0
  exact ⟨rfl, HQ.out.put HL.out 12 _ _ _ _ _ rfl ⟨_, _, rfl⟩ HQ.out.t2 HQ.out.t3⟩
set_option maxRecDepth 100000 in
set_option maxHeartbeats 2000000 in
theorem f_entries {w : World} {base b c d : Nat} {v : Value} {s : LS} {x : Ask} {ul ue ua : Value} {t : Ask} {tl te ta : Value} (h : Qa w base b c d v s x ul ue ua t tl te ta) (hf : Fit x) (hm : Sm s 140600000000000) (da : LS → LS) :
    Calls Tryz.prog 105 #[.pointer (some ⟨d, 0, none⟩)] w fun e w' => e = .returned (.tuple #[]) ∧ FPost w base b c d v (lFq x da .entries s) x ul ue ua (setF x .entries t) w' := by
  obtain ⟨p1, q1, rfl, _⟩ := id h.s2
  have c0 : w.cell? ⟨d, 0, none⟩ = some (lay c) := by rw [cell_of_row _ _ _ _ _ _ h.row]; rfl
  have c4 : w.cell? ⟨d, 6, none⟩ = some (.slice p1 x.ent.length q1) := by rw [cell_of_row _ _ _ _ _ _ h.row]; rfl
  have i1 := layTexts_all _ x.ent 1 32 4096 hf.el w.drew (Slc.drew h.s2) h.l2 h.ly.drew (fun e0 bs e => by have := hm bs e; have := texts_fit e0 (by omega) (by omega); omega)
  rw [lay] at c0
  have mm := m_laying_texts ⟨c, 0, none⟩
  have HQ := hid h
  clear h hf hm
  go_enter Tryz.func105, Tryz.ntmps105
  go_region_held3 (fun w' => w'.cell? ⟨d, 0, none⟩ = some (.iface 96 (.pointer (some ⟨c, 0, none⟩))) ∧ w'.cell? ⟨d, 6, none⟩ = some (.slice p1 x.ent.length q1)) (first | exact ⟨c0, c4⟩ | exact S2 | exact S3) (first | (go_at_call 157; (with_reducible refine i1.mono ?_); rintro e w2 ⟨rfl, hl⟩; have hl := hl.drew; have hrow := HQ.out.row2 hl; have g0 : w2.frozen? ⟨d, 13, none⟩ = false := frozen_of_row _ _ _ _ _ hrow; have e0 : w2.cell? ⟨d, 13, none⟩ = some (te) := (by rw [cell_of_row _ _ _ _ _ _ hrow]; rfl); have S2 : w2.cell? ⟨d, 0, none⟩ = some (lay c) ∧ w2.cell? ⟨d, 6, none⟩ = some (.slice p1 x.ent.length q1) := ⟨by rw [cell_of_row _ _ _ _ _ _ hrow]; rfl, by rw [cell_of_row _ _ _ _ _ _ hrow]; rfl⟩; have hrow3 := row_set 13 (.slice p1 x.ent.length q1) hrow rfl; have S3 : (w2.setCell ⟨d, 13, none⟩ (.slice p1 x.ent.length q1)).cell? ⟨d, 0, none⟩ = some (lay c) ∧ (w2.setCell ⟨d, 13, none⟩ (.slice p1 x.ent.length q1)).cell? ⟨d, 6, none⟩ = some (.slice p1 x.ent.length q1) := ⟨by rw [cell_of_row _ _ _ _ _ _ hrow3]; rfl, by rw [cell_of_row _ _ _ _ _ _ hrow3]; rfl⟩; rw [lay] at S2 S3; have HL := hid hl; clear hl hrow hrow3))
  go_end0
  exact ⟨rfl, HQ.out.put HL.out 13 _ _ _ _ _ rfl HQ.out.t1 ⟨_, _, rfl⟩ HQ.out.t3⟩
end Msg
end Go.Proofs.YtmhgdcfmfcjagaaGreatDoor
