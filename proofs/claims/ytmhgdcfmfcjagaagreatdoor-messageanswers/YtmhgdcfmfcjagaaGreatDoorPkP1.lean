import Derived.Test.YtmhgdcfmfcjagaaGreatDoorPkN6
namespace Go.Proofs.YtmhgdcfmfcjagaaGreatDoor
open Go.RowKit Cod
theorem digs300 : digs 300 = [172, 2] := by rw [digs_great (by omega), digs_small (by omega)]; rfl
theorem kw2 : (WSt.ok [255]).put (numErr 300) (digs (300 : Int).toNat) = .ok [255, 172, 2] := by
  rw [show (300 : Int).toNat = 300 from rfl, digs300]; rfl
end Go.Proofs.YtmhgdcfmfcjagaaGreatDoor

namespace Go.Proofs.YtmhgdcfmfcjagaaGreatDoor
open Go.RowKit Cod
theorem one_byte (w : World) (x : UInt8) (z : Int) (hz : z = (x.toNat : Int)) :
    (convert 91 9 (.slice (some ⟨w.heap.size, 0, none⟩) 1 1)).run Tryz.prog (w.alloc (.cells #[.int .u8 z] 5)) = .ok (sv [x]) (w.alloc (.cells #[.int .u8 z] 5)) := by
  subst hz
  refine run_conv_bytes (P := Tryz.prog) _ 91 9 5 w.heap.size 0 1 1 [x] rfl Tryz.underlying91 Tryz.underlying5 Tryz.underlying9 (fun j v hv => ?_)
  rw [cell_of_row _ _ _ _ _ _ (heap_alloc_new w _), Nat.zero_add]
  match j, hv with
  | 0, hv => obtain rfl := Option.some.inj hv; rfl
set_option maxRecDepth 100000 in
set_option maxHeartbeats 1000000 in
theorem digits_any (n : Nat) (hn : n ≤ 9223372036854775807) (w : World) :
    Calls Tryz.prog 73 #[.int .i64 (n : Int)] w fun r w' => r = .returned (sv (digs n)) ∧ Below w.heap.size w w' := by
  have hnl : (digs n).length ≤ 9 + 1 := digs_len 9 n (by have e : 128 ^ (9 + 1) = 1180591620717411303424 := by decide
                                                         rw [e]; omega)
  have HN := hid hnl
  clear hnl
  go_enter Tryz.func73, Tryz.ntmps73
  go_wp2
  go_loopw [0, 3] (fun i s w' => ∃ (m : Nat) (t : List UInt8), i = .int .i64 (m : Int) ∧ m ≤ 9223372036854775807 ∧ s = sv t ∧ Hid (t ++ digs m = digs n) ∧ Hid (Below w.heap.size w w')) (fun i _ _ => (intOf i).toNat)
  case atStart => exact ⟨n, [], rfl, hn, rfl, rfl, Below.refl _ _⟩
  case round =>
    obtain ⟨m, t, rfl, hm, rfl, hd, hb⟩ := hrel
    have hll : t.length + (digs m).length ≤ 10 := by
      have := congrArg List.length hd.out
      have h2 := HN.out
      simp only [List.length_append] at this
      omega
    have hp := digs_pos m
    by_cases hlt : m < 128
    · have b1 : (m : Int) < 128 := by omega
      have hc := one_byte wr (UInt8.ofNat m) (m : Int) (by simp; omega)
      have hadd := add_sv Tryz.prog 9 t [UInt8.ofNat m] (by simp; omega)
      have HD := hid (show t ++ [UInt8.ofNat m] = digs n by rw [← hd.out, digs_small hlt])
      rw [HD.out] at hadd
      have B2 := hid (hb.out.alloc hb.out.size (.cells #[.int .u8 (m : Int)] 5))
      clear hd hll hp
      go_wp2
      go_ret
      exact ⟨rfl, B2.out⟩
    · have b1 : (128 : Int) ≤ (m : Int) := by omega
      have eu : (UInt8.ofNat (m % 128 + 128)).toNat = m % 128 + 128 := by simp; omega
      obtain ⟨x, hx⟩ : ∃ x, Hid (UInt8.ofNat (m % 128 + 128) = x) := ⟨_, rfl⟩
      rw [hx.out] at eu
      have hc := one_byte wr x (128 + (m : Int) % 128) (by rw [eu]; omega)
      have hadd := add_sv Tryz.prog 9 t [x] (by simp; omega)
      have HD : Hid ((t ++ [x]) ++ digs (m / 128) = digs n) := by
        show _ = _
        rw [List.append_assoc, List.singleton_append, ← hx.out, ← digs_great hlt, hd.out]
      have B2 := hid (hb.out.alloc hb.out.size (.cells #[.int .u8 (128 + (m : Int) % 128)] 5))
      have c0 : 0 ≤ 128 + (m : Int) % 128 := by omega
      have c1 : 128 + (m : Int) % 128 < 256 := by omega
      clear hd hll hp eu
      go_wp2
      exact ⟨⟨m / 128, _, by go_num, by omega, rfl, HD, B2⟩, by simp [intOf]; omega⟩
def tupA (N : Nat) : Rd Nat → Value
  | .bad e => .tuple #[.int .i64 0, .int .i64 0, .int .i64 (e : Int)]
  | .good n r => .tuple #[.int .i64 (n : Int), .int .i64 ((N - r.length : Nat) : Int), .int .i64 0]
set_option maxRecDepth 100000 in
set_option maxHeartbeats 2000000 in
theorem number_any (s : ByteArray) (at_ : Nat) (hat : at_ ≤ s.size) (hs : s.size ≤ 9223372036854775000) (w : World) :
    Calls Tryz.prog 103 #[.string s, .int .i64 (at_ : Int)] w fun r w' => r = .returned (tupA s.size (rdNum (s.data.toList.drop at_))) ∧ w' = w := by
  obtain ⟨R, hR⟩ : ∃ R, Hid (rdNum (s.data.toList.drop at_) = R) := ⟨_, rfl⟩
  rw [hR.out]
  go_enter Tryz.func103, Tryz.ntmps103
  go_wp2
  go_loopw [7, 8, 9] (fun n un i w' => ∃ (k acc u : Nat), k ≤ 8 ∧ at_ + k ≤ s.size ∧ i = .int .i64 k ∧ n = .int .i64 (acc : Int) ∧ un = .int .i64 (u : Int) ∧ Hid (u = 128 ^ k) ∧ acc < u ∧ u ≤ 72057594037927936 ∧ Hid (rdDig (s.data.toList.drop (at_ + k)) k acc = R) ∧ w' = w) (fun _ _ i _ => 9 - (intOf i).toNat)
  case atStart => exact ⟨0, 0, 1, by omega, by omega, rfl, rfl, rfl, rfl, by omega, by omega, hR.out, rfl⟩
  case round =>
    obtain ⟨k, acc, u, hk, hks, rfl, rfl, rfl, hu, ha, hub, hr, rfl⟩ := hrel
    by_cases hlt : at_ + k < s.size
    · have b1 : (at_ : Int) + (k : Int) < (s.size : Int) := by omega
      obtain ⟨x, hx, hx2, hi, hi2⟩ := index_any s ((at_ : Int) + (k : Int)) (at_ + k) (by omega) hlt
      have hcons : s.data.toList.drop (at_ + k) = UInt8.ofNat x :: s.data.toList.drop (at_ + k + 1) := by
        have hk' : at_ + k < s.data.toList.length := by rw [data_length]; exact hlt
        rw [List.drop_eq_getElem_cons hk']
        congr 1
        rw [hx.out, List.getD_eq_getElem?_getD, List.getElem?_eq_getElem hk']
        simp
      have hxu : (UInt8.ofNat x).toNat = x := by simp; omega
      have hr2 := hr.out
      rw [hcons, rdDig, if_neg (by omega), hxu, ← hu.out] at hr2
      have hs0 := hi2 hlt
      clear hcons hxu hi2 hi
      obtain ⟨z, hz⟩ : ∃ z : Nat, Hid (x % 128 * u = z) := ⟨_, rfl⟩
      have hz2 : z ≤ 127 * u := by rw [← hz.out]; exact Nat.mul_le_mul_right _ (by omega)
      have hzi : (x : Int) % 128 * (u : Int) = (z : Int) := by rw [← hz.out, Int.natCast_mul]; rfl
      by_cases h8 : k = 8
      · subst h8
        have hu8 : u = 72057594037927936 := hu.out.trans (by decide)
        have b1' : (at_ : Int) + 8 < (s.size : Int) := by omega
        clear b1
        by_cases hge : 128 ≤ x
        · rw [if_pos hge] at hr2
          have b3 : ¬ (x : Int) < 128 := by omega
          have hb : R = .bad 20 := by
            rw [← hr2]
            cases s.data.toList.drop (at_ + 8 + 1) with
            | nil => rw [rdDig, if_pos rfl]
            | cons b r => rw [rdDig, if_pos rfl]
          subst hb
          clear hr2 hz hzi
          go_wp2
          go_ret3
          exact ⟨rfl, rfl⟩
        · rw [if_neg hge] at hr2
          have b3 : (x : Int) < 128 := by omega
          by_cases h0 : x = 0
          · subst h0
            rw [if_pos ⟨rfl, by omega⟩] at hr2
            subst hr2
            clear hz hzi
            go_wp2
            go_ret3
            exact ⟨rfl, rfl⟩
          · rw [if_neg (by omega)] at hr2
            have b4 : ((x : Int) == 0) = false := by simp; omega
            have hm : (x : Int) % 128 = (x : Int) := by omega
            have hxz : x * u = z := by rw [← hz.out, Nat.mod_eq_of_lt (by omega)]
            rw [hm] at hzi
            rw [hxz] at hr2
            rw [hu8] at hxz
            by_cases h64 : 64 < x
            · rw [if_pos (by rw [top]; omega)] at hr2
              subst hr2
              have b5 : (64 : Int) < (x : Int) := by omega
              clear hz hxz
              go_wp2
              go_ret3
              exact ⟨rfl, rfl⟩
            · have b5 : ¬ (64 : Int) < (x : Int) := by omega
              by_cases h65 : x = 64
              · by_cases ha0 : 0 < acc
                · rw [if_pos (by rw [top]; omega)] at hr2
                  subst hr2
                  have b6 : (0 : Int) < (acc : Int) := by omega
                  subst h65
                  clear hz hxz hzi
                  go_wp2
                  go_ret3
                  exact ⟨rfl, rfl⟩
                · rw [if_neg (by rw [top]; omega)] at hr2
                  have b6 : ¬ (0 : Int) < (acc : Int) := by omega
                  subst h65 hu8
                  subst hr2
                  obtain rfl : acc = 0 := by omega
                  obtain rfl : z = 4611686018427387904 := by omega
                  clear hz hxz hzi
                  go_wp2
                  go_ret3
                  refine ⟨?_, rfl⟩
                  rw [tupA, List.length_drop, data_length, show s.size - (s.size - (at_ + 8 + 1)) = at_ + 8 + 1 from by omega]
                  rfl
              · rw [if_neg (by rw [top]; omega)] at hr2
                have b7 : ((x : Int) == 64) = false := by simp; omega
                have c1 : (acc : Int) + (z : Int) ≤ 9223372036854775807 := by omega
                have c2 : (z : Int) ≤ 9223372036854775807 := by omega
                subst hr2
                have hub2 : (u : Int) ≤ 72057594037927936 := by omega
                clear hz hxz hu8 hub
                go_wp2
                go_ret3
                refine ⟨?_, rfl⟩
                rw [tupA, List.length_drop, data_length, show s.size - (s.size - (at_ + 8 + 1)) = at_ + 8 + 1 from by omega]
                rfl
      · have b4 : ((k : Int) == 8) = false := by simp; omega
        by_cases hge : 128 ≤ x
        · rw [if_pos hge, hz.out] at hr2
          have b3 : ¬ (x : Int) < 128 := by omega
          have HR2 := hid hr2
          have hu8 : u * 128 ≤ 72057594037927936 := by
            have := pow128_le (show k + 1 ≤ 8 by omega)
            rw [Nat.pow_succ, ← hu.out] at this
            exact this
          have hu9 : (u : Int) * 128 ≤ 72057594037927936 := by omega
          clear hr2
          go_wp2
          exact ⟨⟨k + 1, acc + z, u * 128, by omega, by omega, by go_num, by go_num, by go_num, by show _ = _; rw [hu.out, Nat.pow_succ], by omega, by omega, HR2, trivial⟩, by simp [intOf]; omega⟩
        · rw [if_neg hge] at hr2
          have b3 : (x : Int) < 128 := by omega
          have hm : (x : Int) % 128 = (x : Int) := by omega
          have hxz : x * u = z := by rw [← hz.out, Nat.mod_eq_of_lt (by omega)]
          rw [hm] at hzi
          have hu7 : u ≤ 562949953421312 := by
            have h := Nat.pow_le_pow_right (show 0 < 128 by omega) (show k ≤ 7 by omega)
            rw [← hu.out] at h
            have e : 128 ^ 7 = 562949953421312 := by decide
            omega
          by_cases h0 : x = 0
          · subst h0
            by_cases hk0 : 0 < k
            · rw [if_pos ⟨rfl, hk0⟩] at hr2
              subst hr2
              have b5 : (0 : Int) < (k : Int) := by omega
              clear hz hzi hxz
              go_wp2
              go_ret3
              exact ⟨rfl, rfl⟩
            · rw [if_neg (by omega), hxz, if_neg (by rw [top]; omega)] at hr2
              obtain rfl : k = 0 := by omega
              have hu1 : u = 1 := hu.out
              subst hu1
              obtain rfl : acc = 0 := by omega
              obtain rfl : z = 0 := by omega
              have b1' : (at_ : Int) < (s.size : Int) := by omega
              subst hr2
              have hs1 : (s[at_]'(by omega)).toNat = 0 := hs0
              clear hz hzi hxz b4 b1 hs0
              go_wp2
              go_ret3
              refine ⟨?_, rfl⟩
              rw [tupA, List.length_drop, data_length, show s.size - (s.size - (at_ + 0 + 1)) = at_ + 1 from by omega]
              rfl
          · rw [if_neg (by omega), hxz, if_neg (by rw [top]; omega)] at hr2
            have b5 : ((x : Int) == 0) = false := by simp; omega
            have c1 : (acc : Int) + (z : Int) ≤ 9223372036854775807 := by omega
            have c2 : (z : Int) ≤ 9223372036854775807 := by omega
            subst hr2
            clear hz hxz
            go_wp2
            go_ret3
            refine ⟨?_, rfl⟩
            rw [tupA, List.length_drop, data_length, show s.size - (s.size - (at_ + k + 1)) = at_ + k + 1 from by omega]
            rfl
    · have b1 : ¬ (at_ : Int) + (k : Int) < (s.size : Int) := by omega
      have hb : R = .bad 21 := by
        rw [← hr.out, List.drop_eq_nil_of_le (by rw [data_length]; omega), rdDig, if_neg (by omega)]
      subst hb
      go_wp2
      go_ret3
      exact ⟨rfl, rfl⟩
end Go.Proofs.YtmhgdcfmfcjagaaGreatDoor

namespace Go.Proofs.YtmhgdcfmfcjagaaGreatDoor
open Go.RowKit Cod
def tupT (N : Nat) : Rd (List UInt8) → Value
  | .bad e => .tuple #[sv [], .int .i64 0, .int .i64 (e : Int)]
  | .good t r => .tuple #[sv t, .int .i64 ((N - r.length : Nat) : Int), .int .i64 0]
theorem sv_mid (s : ByteArray) (a n : Nat) : sv ((s.data.toList.drop a).take n) = .string (s.extract a (a + n)) := by
  rw [← sv_of, Lib.extract_data, show a + n - a = n from by omega]
theorem num_rest {l : List UInt8} {a n : Nat} {r : List UInt8} (h : rdNum (l.drop a) = .good n r) (ha : a ≤ l.length) : r = l.drop (l.length - r.length) ∧ r.length + 1 ≤ l.length - a := by
  obtain ⟨p, hp⟩ := pf_num.ends _ _ _ h
  have h1 := num_len h
  rw [List.length_drop] at h1
  refine ⟨?_, h1⟩
  have e : l.drop a = p ++ r := hp
  have hl := congrArg List.length e
  rw [List.length_drop, List.length_append] at hl
  rw [show l.length - r.length = a + p.length from by omega, ← List.drop_drop, e, List.drop_left]
set_option maxRecDepth 100000 in
set_option maxHeartbeats 1000000 in
theorem rtext_any (s : ByteArray) (at_ : Nat) (most : Int) (hm : 0 ≤ most) (hat : at_ ≤ s.size) (hs : s.size ≤ 4611686018427380000) (w : World) :
    Calls Tryz.prog 100 #[.string s, .int .i64 (at_ : Int), .int .i64 most] w fun r w' => r = .returned (tupT s.size (rdText (s.data.toList.drop at_) most)) ∧ w' = w := by
  have hN := number_any s at_ hat (by omega) w
  rw [rdText, rdMany, if_neg (by omega)]
  cases hR : rdNum (s.data.toList.drop at_) with
  | bad e =>
    have he := nz_num _ e hR
    have he' : ((e : Int) == 0) = false := by simp; omega
    rw [hR] at hN
    simp only [tupA] at hN
    clear hR
    rw [Rd.bind_bad, Rd.bind_bad]
    go_enter Tryz.func100, Tryz.ntmps100
    go_wp2_with (go_at_call 103; refine hN.mono ?_; rintro x w1 ⟨rfl, hw'⟩; rw [hw']; clear hw' w1)
    go_ret3
    exact ⟨rfl, rfl⟩
  | good n r =>
    obtain ⟨h1, h2⟩ := num_rest hR (by rw [data_length]; exact hat)
    have h62 := (num_back hR).2
    rw [top] at h62
    rw [data_length] at h1 h2
    rw [hR] at hN
    simp only [tupA] at hN
    clear hR
    rw [Rd.bind_good]
    obtain ⟨to_, hto⟩ : ∃ to_, s.size - r.length = to_ := ⟨_, rfl⟩
    rw [hto] at hN h1
    have hrl : r.length = s.size - to_ := by omega
    have ht2 : to_ ≤ s.size := by omega
    by_cases hc : most < (n : Int)
    · rw [if_pos hc, Rd.bind_bad]
      clear h1 hto hrl
      go_enter Tryz.func100, Tryz.ntmps100
      go_wp2_with (go_at_call 103; refine hN.mono ?_; rintro x w1 ⟨rfl, hw'⟩; rw [hw']; clear hw' w1)
      go_ret3
      exact ⟨rfl, rfl⟩
    · rw [if_neg hc, Rd.bind_good, rdRaw, if_neg (by omega), hrl]
      by_cases hd : ((s.size - to_ : Nat) : Int) < (n : Int)
      · rw [if_pos hd]
        have b0 : (s.size : Int) - (to_ : Int) < (n : Int) := by omega
        have b1 : (to_ : Int) ≤ (s.size : Int) := by omega
        clear h1 hto hrl hd
        go_enter Tryz.func100, Tryz.ntmps100
        go_wp2_with (go_at_call 103; refine hN.mono ?_; rintro x w1 ⟨rfl, hw'⟩; rw [hw']; clear hw' w1)
        go_ret3
        exact ⟨rfl, rfl⟩
      · rw [if_neg hd, Int.toNat_natCast]
        have b0 : ¬ (s.size : Int) - (to_ : Int) < (n : Int) := by omega
        have b1 : (to_ : Int) ≤ (s.size : Int) := by omega
        have b2 : (to_ : Int) + (n : Int) ≤ (s.size : Int) := by omega
        have e1 : tupT s.size (.good (r.take n) (r.drop n)) = .tuple #[.string (s.extract to_ (to_ + n)), .int .i64 ((to_ + n : Nat) : Int), .int .i64 0] := by
          rw [tupT, List.length_drop, hrl, h1, sv_mid, show s.size - (s.size - to_ - n) = to_ + n from by omega]
        rw [e1]
        have t1 : ((to_ : Int) + (n : Int)).toNat = to_ + n := by omega
        clear h1 hto hrl hd e1
        go_enter Tryz.func100, Tryz.ntmps100
        go_wp2_with (go_at_call 103; refine hN.mono ?_; rintro x w1 ⟨rfl, hw'⟩; rw [hw']; clear hw' w1)
        go_ret3
        exact ⟨rfl, rfl⟩
theorem text_rest {l : List UInt8} {a : Nat} {m : Int} {t r : List UInt8} (h : rdText (l.drop a) m = .good t r) (ha : a ≤ l.length) : r = l.drop (l.length - r.length) ∧ r.length + 1 ≤ l.length - a := by
  obtain ⟨p, hp⟩ := (pf_text m).ends _ _ _ h
  have h1 := text_len h
  rw [List.length_drop] at h1
  refine ⟨?_, h1⟩
  have e : l.drop a = p ++ r := hp
  have hl := congrArg List.length e
  rw [List.length_drop, List.length_append] at hl
  rw [show l.length - r.length = a + p.length from by omega, ← List.drop_drop, e, List.drop_left]
set_option maxRecDepth 100000 in
theorem rframe_any (s : ByteArray) (w : World) :
    Calls Tryz.prog 37 #[.string s] w fun r w' => r = .returned (if 1048576 < s.size then .tuple #[sv [], .int .i64 22] else .tuple #[sv (wrText s.data.toList), .int .i64 0]) ∧ Below w.heap.size w w' := by
  by_cases h : 1048576 < s.size
  · rw [if_pos h]
    have h' : (1048576 : Int) < (s.size : Int) := by omega
    go_enter Tryz.func37, Tryz.ntmps37
    go_wp2
    go_ret2
    exact ⟨rfl, Below.refl _ _⟩
  · rw [if_neg h]
    have h' : ¬ (1048576 : Int) < (s.size : Int) := by omega
    have h9 : (digs s.size).length ≤ 9 := digs_len9 (by omega)
    have hD := digits_any s.size (by omega) w
    have hadd := add_sv Tryz.prog 9 (digs s.size) s.data.toList (by rw [data_length]; omega)
    rw [sv_of] at hadd
    have e : digs s.size ++ s.data.toList = wrText s.data.toList := by rw [wrText, data_length]
    rw [e] at hadd
    clear e h9
    go_enter Tryz.func37, Tryz.ntmps37
    go_wp2_with (go_at_call 73; refine hD.mono ?_; rintro x w1 ⟨rfl, h1⟩; have H1 := hid h1; clear h1)
    go_ret2
    exact ⟨rfl, H1.out⟩
set_option maxRecDepth 100000 in
theorem runframe_any (s : ByteArray) (w : World) (hs : s.size ≤ 4611686018427380000) :
    Calls Tryz.prog 82 #[.string s] w fun r w' => r = .returned (tupS (rdText s.data.toList 1048576)) ∧ Below w.heap.size w w' := by
  have hN := rtext_any s 0 1048576 (by omega) (by omega) hs w
  rw [List.drop_zero] at hN
  cases hR : rdText s.data.toList 1048576 with
  | bad e =>
    have he := nz_text _ _ e hR
    have he' : ((e : Int) == 0) = false := by simp; omega
    rw [hR] at hN
    simp only [tupT] at hN
    clear hR
    go_enter Tryz.func82, Tryz.ntmps82
    go_wp2_with (go_at_call 100; refine hN.mono ?_; rintro x w1 ⟨rfl, hw'⟩; rw [hw']; clear hw' w1)
    go_ret3
    exact ⟨rfl, Below.refl _ _⟩
  | good t r =>
    obtain ⟨h1, h2⟩ := text_rest (a := 0) (by rw [List.drop_zero]; exact hR) (Nat.zero_le _)
    rw [data_length] at h1 h2
    rw [hR] at hN
    simp only [tupT] at hN
    clear hR
    obtain ⟨to_, hto⟩ : ∃ to_, s.size - r.length = to_ := ⟨_, rfl⟩
    rw [hto] at hN h1
    have ht2 : (to_ : Int) ≤ (s.size : Int) := by omega
    have e1 : tupS (.good t r) = .tuple #[sv t, .string (s.extract to_ s.size), .int .i64 0] := by rw [tupS, h1, sv_drop]
    rw [e1]
    clear e1 h1 hto
    go_enter Tryz.func82, Tryz.ntmps82
    go_wp2_with (go_at_call 100; refine hN.mono ?_; rintro x w1 ⟨rfl, hw'⟩; rw [hw']; clear hw' w1)
    go_quiet (fail)
    go_wp2
    go_ret3
    exact ⟨rfl, below_drewN (Below.refl _ _) _⟩
end Go.Proofs.YtmhgdcfmfcjagaaGreatDoor

namespace Go.Proofs.YtmhgdcfmfcjagaaGreatDoor
open Go.RowKit Cod
def RWr (w : World) (x : Nat) (S : List UInt8) (E : Int) : Prop := w.heap[x]? = some (.cells #[sv S, .int .i64 E] 109 (0, 0))
theorem RWr.lt {w : World} {x : Nat} {S : List UInt8} {E : Int} (h : RWr w x S E) : x < w.heap.size := lt_of_heap h
theorem RWr.below {w w' : World} {x : Nat} {S : List UInt8} {E : Int} (h : RWr w x S E) (hb : Below w.heap.size w w') : RWr w' x S E := (hb.block x h.lt).trans h
def fstE (E e : Int) : Int := if E = 0 then e else E
theorem RWr.cell0 {w : World} {x : Nat} {S : List UInt8} {E : Int} (h : RWr w x S E) : w.cell? ⟨x, 0, none⟩ = some (sv S) := by rw [cell_of_row _ _ _ _ _ _ h]; rfl
theorem RWr.cell1 {w : World} {x : Nat} {S : List UInt8} {E : Int} (h : RWr w x S E) : w.cell? ⟨x, 1, none⟩ = some (.int .i64 E) := by rw [cell_of_row _ _ _ _ _ _ h]; rfl
theorem RWr.set0 {w : World} {x : Nat} {S S' : List UInt8} {E : Int} (h : RWr w x S E) : RWr (w.setCell ⟨x, 0, none⟩ (sv S')) x S' E := row2_set0 h
set_option maxRecDepth 100000 in
theorem rnewWriter_any (w : World) :
    Calls Tryz.prog 34 #[] w fun r w' => r = .returned (.pointer (some ⟨w.heap.size, 0, none⟩)) ∧ RWr w' w.heap.size [] 0 ∧ Below w.heap.size w w' ∧ w'.heap.size = w.heap.size + 1 := by
  go_enter Tryz.func34, Tryz.ntmps34
  go_wp2
  go_ret
  exact ⟨rfl, heap_alloc_new w _, (Below.refl _ _).alloc (Nat.le_refl _) _, size_alloc _ _⟩
set_option maxRecDepth 100000 in
set_option maxHeartbeats 400000 in
theorem wrong_any (x : Nat) (S : List UInt8) (E e : Int) (w : World) (h : RWr w x S E) :
    Calls Tryz.prog 96 #[.pointer (some ⟨x, 0, none⟩), .int .i64 e] w fun r w' => r = .returned (.tuple #[]) ∧ RWr w' x S (fstE E e) ∧ But x w w' := by
  have c1 := h.cell1
  have f1 : w.frozen? ⟨x, 1, none⟩ = false := frozen_of_row _ _ _ _ _ h
  have H := hid h
  clear h
  by_cases hE : E = 0
  · subst hE
    go_enter Tryz.func96, Tryz.ntmps96
    go_wp2
    go_end0
    exact ⟨rfl, by rw [fstE, if_pos rfl]; exact row2_set1 H.out, (But.refl x w).setCell 1 _⟩
  · have hE' : (E == 0) = false := by simp; exact hE
    go_enter Tryz.func96, Tryz.ntmps96
    go_wp2
    go_end0
    exact ⟨rfl, by rw [fstE, if_neg hE]; exact H.out, But.refl x w⟩
set_option maxRecDepth 100000 in
theorem may_any (n : Int) (w : World) : Calls Tryz.prog 97 #[.int .i64 n] w fun r w' => r = .returned (.bool (decide (0 ≤ n ∧ n ≤ 4611686018427387904))) ∧ w' = w := by
  by_cases h : 0 ≤ n
  · by_cases h3 : n ≤ 4611686018427387904
    · have e : decide (0 ≤ n ∧ n ≤ 4611686018427387904) = true := decide_eq_true ⟨h, h3⟩
      rw [e]
      go_enter Tryz.func97, Tryz.ntmps97
      go_wp2
      go_ret
      exact ⟨rfl, rfl⟩
    · have e : decide (0 ≤ n ∧ n ≤ 4611686018427387904) = false := decide_eq_false (by omega)
      rw [e]
      go_enter Tryz.func97, Tryz.ntmps97
      go_wp2
      go_ret
      exact ⟨rfl, rfl⟩
  · have e : decide (0 ≤ n ∧ n ≤ 4611686018427387904) = false := decide_eq_false (by omega)
    have h' : n < 0 := by omega
    rw [e]
    go_enter Tryz.func97, Tryz.ntmps97
    go_wp2
    go_ret
    exact ⟨rfl, rfl⟩
def RPut (w : World) (x : Nat) (S : List UInt8) (E e : Int) (l : List UInt8) (r : Ending) (w' : World) : Prop :=
  r = .returned (.tuple #[]) ∧ RWr w' x (if e = 0 then S ++ l else S) (if e = 0 then E else fstE E e) ∧ But x w w'
set_option maxRecDepth 100000 in
set_option maxHeartbeats 1000000 in
theorem xwRaw_any (x : Nat) (S : List UInt8) (E : Int) (s : ByteArray) (w : World) (h : RWr w x S E) (hl : S.length + s.size ≤ 9223372036854775807) :
    Calls Tryz.prog 79 #[.pointer (some ⟨x, 0, none⟩), .string s] w (RPut w x S E 0 s.data.toList) := by
  have c0 := h.cell0
  have f0 : w.frozen? ⟨x, 0, none⟩ = false := frozen_of_row _ _ _ _ _ h
  have hadd := add_sv Tryz.prog 9 S s.data.toList (by rw [data_length]; exact hl)
  rw [sv_of] at hadd
  have H := hid h
  clear h
  obtain ⟨z, hz⟩ : ∃ z, Hid (sv (S ++ s.data.toList) = .string z) := ⟨_, rfl⟩
  rw [hz.out] at hadd
  go_enter Tryz.func79, Tryz.ntmps79
  go_wp2
  go_end0
  refine ⟨rfl, ?_, (But.refl x w).setCell 0 _⟩
  rw [if_pos rfl, if_pos rfl, ← hz.out]
  exact H.out.set0
theorem one_byte_drew (w : World) (x : UInt8) (z : Int) (hz : z = (x.toNat : Int)) :
    (convert 91 9 (.slice (some ⟨w.heap.size, 0, none⟩) 1 1)).run Tryz.prog (w.alloc (.cells #[.int .u8 z] 5)).drew = .ok (sv [x]) (w.alloc (.cells #[.int .u8 z] 5)).drew := by
  subst hz
  refine run_conv_bytes (P := Tryz.prog) _ 91 9 5 w.heap.size 0 1 1 [x] rfl Tryz.underlying91 Tryz.underlying5 Tryz.underlying9 (fun j v hv => ?_)
  show (w.alloc (.cells #[.int .u8 (x.toNat : Int)] 5)).cell? _ = _
  rw [cell_of_row _ _ _ _ _ _ (heap_alloc_new w _), Nat.zero_add]
  match j, hv with
  | 0, hv => obtain rfl := Option.some.inj hv; rfl
theorem undrew {w w1 : World} (h : Below w.drew.heap.size w.drew w1) : Below w.heap.size w w1 := ⟨h.os, h.tape, h.output, h.size, h.block⟩
theorem rput_no {w w1 : World} {x : Nat} {S l : List UInt8} {E e : Int} (he : e ≠ 0) (h1 : RWr w1 x S (fstE E e)) (h2 : But x w w1) : RPut w x S E e l (.returned (.tuple #[])) w1 :=
  ⟨rfl, by rw [if_neg he, if_neg he]; exact h1, h2⟩
theorem rput_yes {w w1 : World} {x : Nat} {S l : List UInt8} {E : Int} {z : Value} (h : RWr w x S E) (hz : sv (S ++ l) = z) (hb : Below w.heap.size w w1) : RPut w x S E 0 l (.returned (.tuple #[])) (w1.setCell ⟨x, 0, none⟩ z) := by
  subst hz
  refine ⟨rfl, ?_, (But.ofBelow hb).setCell 0 _⟩
  rw [if_pos rfl, if_pos rfl]
  exact (h.below hb).set0
theorem rput_alloc {w : World} {x : Nat} {S l : List UInt8} {E : Int} {z : Value} (h : RWr w x S E) (hz : sv (S ++ l) = z) (o : Obj) : RPut w x S E 0 l (.returned (.tuple #[])) ((w.setCell ⟨x, 0, none⟩ z).alloc o).drew := by
  subst hz
  have hlt := h.lt
  have hs : (w.setCell ⟨x, 0, none⟩ (sv (S ++ l))).heap.size = w.heap.size := by simp [World.setCell]
  refine ⟨rfl, ?_, ?_⟩
  · rw [if_pos rfl, if_pos rfl]
    show ((w.setCell ⟨x, 0, none⟩ (sv (S ++ l))).alloc o).heap[x]? = _
    rw [Below.heap_alloc _ _ _ (by rw [hs]; exact hlt)]
    exact row2_set0 h
  · refine But.drew (But.trans ((But.refl x w).setCell 0 (sv (S ++ l))) (But.ofBelow ?_))
    exact (Below.refl _ _).alloc (Nat.le_refl _) _
set_option maxRecDepth 100000 in
set_option maxHeartbeats 2000000 in
theorem xwNum_any (x : Nat) (S : List UInt8) (E n : Int) (h1 : -9223372036854775808 ≤ n) (h2 : n ≤ 9223372036854775807) (w : World) (h : RWr w x S E) (hl : S.length ≤ 9223372036854775000) :
    Calls Tryz.prog 71 #[.pointer (some ⟨x, 0, none⟩), .int .i64 n] w (RPut w x S E (numErr n) (digs n.toNat)) := by
  by_cases he : numErr n = 0
  · have hn : 0 ≤ n ∧ n ≤ 4611686018427387904 := by
      rw [numErr] at he
      split at he
      · cases he
      · omega
    obtain ⟨m, rfl⟩ := Int.eq_ofNat_of_zero_le hn.1
    have e : decide (0 ≤ (m : Int) ∧ (m : Int) ≤ 4611686018427387904) = true := decide_eq_true hn
    have h9 := digs_len9 (n := m) (by omega)
    have hx := h.lt
    have c0 := h.cell0
    have f0 : w.frozen? ⟨x, 0, none⟩ = false := frozen_of_row _ _ _ _ _ h
    have hD := fun w => digits_any m (by omega) w
    have hadd := add_sv Tryz.prog 9 S (digs m) (by omega)
    obtain ⟨z, hz⟩ : ∃ z, Hid (sv (S ++ digs m) = .string z) := ⟨_, rfl⟩
    rw [hz.out] at hadd
    have H := hid h
    have HD := hid hD
    rw [he, Int.toNat_natCast]
    clear h hD h9 hn
    go_enter Tryz.func71, Tryz.ntmps71
    go_wp2_with (go_at_call 97; refine (may_any (m : Int) _).mono ?_; rw [e]; rintro y w' ⟨rfl, hw'⟩; rw [hw']; clear hw' w')
    go_region_with ((go_at_call 73; refine (HD.out _).mono ?_; rintro y w1 ⟨rfl, k1⟩; have K1 := hid k1; have c1 := (k1.cell (p := ⟨x, 0, none⟩) hx).trans c0; have f1 := (k1.frozen (p := ⟨x, 0, none⟩) hx).trans f0; clear k1))
    all_goals go_end0
    all_goals exact rput_yes H.out hz.out (undrew K1.out)
  · have e : decide (0 ≤ n ∧ n ≤ 4611686018427387904) = false := decide_eq_false (by intro hh; exact he (by rw [numErr, if_neg (by omega)]))
    have e20 : numErr n = 20 := by
      rw [numErr] at he ⊢
      split at he
      · rw [if_pos (by assumption)]
      · exact absurd rfl he
    rw [e20]
    have H := hid h
    clear h he e20
    go_enter Tryz.func71, Tryz.ntmps71
    go_wp2_with (first
      | (go_at_call 97; refine (may_any n _).mono ?_; rw [e]; rintro y w' ⟨rfl, hw'⟩; rw [hw']; clear hw' w')
      | (go_at_call 96; refine (wrong_any x S E 20 _ H.out).mono ?_; rintro y w1 ⟨rfl, k1, k2⟩; have K1 := hid k1; have K2 := hid k2; clear k1 k2))
    go_end0
    exact rput_no (by omega) K1.out K2.out
set_option maxRecDepth 100000 in
set_option maxHeartbeats 2000000 in
theorem xwByte_any (x : Nat) (S : List UInt8) (E n : Int) (w : World) (h : RWr w x S E) (hl : S.length ≤ 9223372036854775000) :
    Calls Tryz.prog 69 #[.pointer (some ⟨x, 0, none⟩), .int .i64 n] w (RPut w x S E (byteErr n) [UInt8.ofNat n.toNat]) := by
  by_cases h0 : n < 0
  · have e20 : byteErr n = 20 := by rw [byteErr, if_pos (.inl h0)]
    rw [e20]
    have H := hid h
    clear h e20
    go_enter Tryz.func69, Tryz.ntmps69
    go_wp2_with (go_at_call 96; refine (wrong_any x S E 20 _ H.out).mono ?_; rintro y w1 ⟨rfl, k1, k2⟩; have K1 := hid k1; have K2 := hid k2; clear k1 k2)
    go_end0
    exact rput_no (by omega) K1.out K2.out
  by_cases h1 : 255 < n
  · have e20 : byteErr n = 20 := by rw [byteErr, if_pos (.inr h1)]
    rw [e20]
    have H := hid h
    clear h e20
    go_enter Tryz.func69, Tryz.ntmps69
    go_wp2_with (go_at_call 96; refine (wrong_any x S E 20 _ H.out).mono ?_; rintro y w1 ⟨rfl, k1, k2⟩; have K1 := hid k1; have K2 := hid k2; clear k1 k2)
    go_end0
    exact rput_no (by omega) K1.out K2.out
  · have e0 : byteErr n = 0 := by rw [byteErr, if_neg (by omega)]
    rw [e0]
    obtain ⟨u, hu⟩ : ∃ u, Hid (UInt8.ofNat n.toNat = u) := ⟨_, rfl⟩
    have hun : n = (u.toNat : Int) := by rw [← hu.out]; simp; omega
    rw [hu.out]
    have hx := h.lt
    have c0 := h.cell0
    have f0 : w.frozen? ⟨x, 0, none⟩ = false := frozen_of_row _ _ _ _ _ h
    have n0 : 0 ≤ n := by omega
    have n1 : n < 256 := by omega
    have hcv := one_byte_drew w u n hun
    have hadd := add_sv Tryz.prog 9 S [u] (by simp; omega)
    obtain ⟨z, hz⟩ : ∃ z, Hid (sv (S ++ [u]) = .string z) := ⟨_, rfl⟩
    rw [hz.out] at hadd
    have H := hid h
    have cA : (w.alloc (.cells #[.int .u8 n] 5)).cell? ⟨x, 0, none⟩ = some (sv S) := (World.cell?_alloc_lt _ _ ⟨x, 0, none⟩ hx).trans c0
    have fA : (w.alloc (.cells #[.int .u8 n] 5)).frozen? ⟨x, 0, none⟩ = false := (World.frozen?_alloc_old _ _ ⟨x, 0, none⟩ (Nat.ne_of_lt hx)).trans f0
    clear h e0 hun
    go_enter Tryz.func69, Tryz.ntmps69
    go_wp2
    go_region
    all_goals go_end0
    all_goals exact rput_alloc H.out hz.out _
end Go.Proofs.YtmhgdcfmfcjagaaGreatDoor
