import Derived.Test.YtmhgdcfmfcjagaaGreatDoorPkN6
namespace Go.Proofs.YtmhgdcfmfcjagaaGreatDoor
open Go.RowKit Cod

theorem Wri.post_below {w w' : World} {base b : Nat} {v : Value} {st : WSt} (h : Wri w base b v st) (hb : base ≤ w.heap.size) (k : Keep (WS b v) w w') : Below base w w' :=
  k.below hb (fun j hj e => by have := (h.in j e).1; omega)
theorem digs300 : digs 300 = [172, 2] := by rw [digs_great (by omega), digs_small (by omega)]; rfl
theorem dg (n : Nat) (h : n < 128) : digs n = [UInt8.ofNat n] := digs_small h
theorem kw1 : (WSt.ok []).put (byteErr 255) [UInt8.ofNat (255 : Int).toNat] = .ok [255] := rfl
theorem kw2 : (WSt.ok [255]).put (numErr 300) (digs (300 : Int).toNat) = .ok [255, 172, 2] := by
  rw [show (300 : Int).toNat = 300 from rfl, digs300]; rfl
theorem kr : wrRising [3, 4, 9] = [3, 3, 0, 4] := by
  rw [wrRising, wrRise, wrRise, wrRise, wrRise, show [3, 4, 9].length = 3 from rfl, show 3 - 0 = 3 from rfl, show 4 - (3 + 1) = 0 from rfl, show 9 - (4 + 1) = 4 from rfl, dg 3 (by omega), dg 0 (by omega), dg 4 (by omega)]; rfl
theorem kw3 : (WSt.ok [255, 172, 2]).put (risingErr [3, 4, 9]) (wrRising (([3, 4, 9] : List Int).map Int.toNat)) = .ok [255, 172, 2, 3, 3, 0, 4] := by
  rw [show ([3, 4, 9] : List Int).map Int.toNat = [3, 4, 9] from rfl, kr]; rfl
theorem kt : wrText [104, 105] = [2, 104, 105] := by rw [wrText, show ([104, 105] : List UInt8).length = 2 from rfl, dg 2 (by omega)]; rfl
theorem kw4 : (WSt.ok [255, 172, 2, 3, 3, 0, 4]).put (textErr (ByteArray.mk #[104, 105]).size 4) (wrText (ByteArray.mk #[104, 105]).data.toList) = .ok [255, 172, 2, 3, 3, 0, 4, 2, 104, 105] := by
  rw [show (ByteArray.mk #[104, 105]).data.toList = [104, 105] from rfl, kt]; rfl
theorem kq2 : rdNum [172, 2, 3, 3, 0, 4, 2, 104, 105] = .good 300 [3, 3, 0, 4, 2, 104, 105] := by
  have := num_there (n := 300) (by decide) [3, 3, 0, 4, 2, 104, 105]
  rw [digs300] at this; exact this
theorem kq3 : rdRising [3, 3, 0, 4, 2, 104, 105] 3 = .good [3, 4, 9] [2, 104, 105] := by
  have := rising_there (l := [3, 4, 9]) (many := 3) (by decide) (by decide) (by simp [Rises, top]) [2, 104, 105]
  rw [kr] at this; exact this
theorem kq4 : rdText [2, 104, 105] 4 = .good [104, 105] [] := by
  have := text_there (t := [104, 105]) (most := 4) (by decide) (by decide) []
  rw [kt] at this; exact this
theorem kv1 : (RS.mk [255, 172, 2, 3, 3, 0, 4, 2, 104, 105] 0 0).val 0 (rdByte [255, 172, 2, 3, 3, 0, 4, 2, 104, 105]) = 255 := rfl
theorem ks1 : (RS.mk [255, 172, 2, 3, 3, 0, 4, 2, 104, 105] 0 0).step (rdByte [255, 172, 2, 3, 3, 0, 4, 2, 104, 105]) = ⟨[172, 2, 3, 3, 0, 4, 2, 104, 105], 1, 0⟩ := rfl
theorem kv2 : (RS.mk [172, 2, 3, 3, 0, 4, 2, 104, 105] 1 0).val 0 (rdNum [172, 2, 3, 3, 0, 4, 2, 104, 105]) = 300 := by rw [kq2]; rfl
theorem ks2 : (RS.mk [172, 2, 3, 3, 0, 4, 2, 104, 105] 1 0).step (rdNum [172, 2, 3, 3, 0, 4, 2, 104, 105]) = ⟨[3, 3, 0, 4, 2, 104, 105], 3, 0⟩ := by rw [kq2]; rfl
theorem kv3 : (RS.mk [3, 3, 0, 4, 2, 104, 105] 3 0).val [] (rdRising [3, 3, 0, 4, 2, 104, 105] 3) = [3, 4, 9] := by rw [kq3]; rfl
theorem ks3 : (RS.mk [3, 3, 0, 4, 2, 104, 105] 3 0).step (rdRising [3, 3, 0, 4, 2, 104, 105] 3) = ⟨[2, 104, 105], 7, 0⟩ := by rw [kq3]; rfl
theorem kv4 : (RS.mk [2, 104, 105] 7 0).val [] (rdText [2, 104, 105] 4) = [104, 105] := by rw [kq4]; rfl
theorem ks4 : (RS.mk [2, 104, 105] 7 0).step (rdText [2, 104, 105] 4) = ⟨[], 10, 0⟩ := by rw [kq4]; rfl

end Go.Proofs.YtmhgdcfmfcjagaaGreatDoor

namespace Go.Proofs.YtmhgdcfmfcjagaaGreatDoor
open Go.RowKit Cod

theorem one_byte (w : World) (x : UInt8) (z : Int) (hz : z = (x.toNat : Int)) :
    (convert 91 9 (.slice (some ⟨w.heap.size, 0, none⟩) 1 1)).run Tryz.prog (w.alloc (.cells #[.int .u8 z] 5)) = .ok (sv [x]) (w.alloc (.cells #[.int .u8 z] 5)) := by
  subst hz
  refine run_conv_bytes (P := Tryz.prog) _ 91 9 5 w.heap.size 0 1 1 [x] rfl Tryz.underlying91 Tryz.underlying5 Tryz.underlying9 (fun j v hv => ?_)
  rw [cell_of_row _ _ _ _ _ _ (heap_alloc_new w _), Nat.zero_add]
  match j, hv with
  | 0, hv => obtain rfl := Option.some.inj hv; rfl

set_option maxRecDepth 100000 in
set_option maxHeartbeats 1000000 in
theorem digits_any (n : Nat) (hn : n ≤ 9223372036854775807) (w : World) :
    Calls Tryz.prog 73 #[.int .i64 (n : Int)] w fun r w' => r = .returned (sv (digs n)) ∧ Below w.heap.size w w' := by
  have hnl : (digs n).length ≤ 9 + 1 := digs_len 9 n (by have e : 128 ^ (9 + 1) = 1180591620717411303424 := by decide
                                                         rw [e]; omega)
  have HN := hid hnl
  clear hnl
  go_enter Tryz.func73, Tryz.ntmps73
  go_wp2
  go_loopw [0, 3] (fun i s w' => ∃ (m : Nat) (t : List UInt8), i = .int .i64 (m : Int) ∧ m ≤ 9223372036854775807 ∧ s = sv t ∧ Hid (t ++ digs m = digs n) ∧ Hid (Below w.heap.size w w')) (fun i _ _ => (intOf i).toNat)
  case atStart => exact ⟨n, [], rfl, hn, rfl, rfl, Below.refl _ _⟩
  case round =>
    obtain ⟨m, t, rfl, hm, rfl, hd, hb⟩ := hrel
    have hll : t.length + (digs m).length ≤ 10 := by
      have := congrArg List.length hd.out
      have h2 := HN.out
      simp only [List.length_append] at this
      omega
    have hp := digs_pos m
    by_cases hlt : m < 128
    · have b1 : (m : Int) < 128 := by omega
      have hc := one_byte wr (UInt8.ofNat m) (m : Int) (by simp; omega)
      have hadd := add_sv Tryz.prog 9 t [UInt8.ofNat m] (by simp; omega)
      have HD := hid (show t ++ [UInt8.ofNat m] = digs n by rw [← hd.out, digs_small hlt])
      rw [HD.out] at hadd
      have B2 := hid (hb.out.alloc hb.out.size (.cells #[.int .u8 (m : Int)] 5))
      clear hd hll hp
      go_wp2
      go_ret
      exact ⟨rfl, B2.out⟩
    · have b1 : (128 : Int) ≤ (m : Int) := by omega
      have eu : (UInt8.ofNat (m % 128 + 128)).toNat = m % 128 + 128 := by simp; omega
      obtain ⟨x, hx⟩ : ∃ x, Hid (UInt8.ofNat (m % 128 + 128) = x) := ⟨_, rfl⟩
      rw [hx.out] at eu
      have hc := one_byte wr x (128 + (m : Int) % 128) (by rw [eu]; omega)
      have hadd := add_sv Tryz.prog 9 t [x] (by simp; omega)
      have HD : Hid ((t ++ [x]) ++ digs (m / 128) = digs n) := by
        show _ = _
        rw [List.append_assoc, List.singleton_append, ← hx.out, ← digs_great hlt, hd.out]
      have B2 := hid (hb.out.alloc hb.out.size (.cells #[.int .u8 (128 + (m : Int) % 128)] 5))
      have c0 : 0 ≤ 128 + (m : Int) % 128 := by omega
      have c1 : 128 + (m : Int) % 128 < 256 := by omega
      clear hd hll hp eu
      go_wp2
      exact ⟨⟨m / 128, _, by go_num, by omega, rfl, HD, B2⟩, by simp [intOf]; omega⟩

/-- what the document's reading leaves: of a text of N bytes -/
def tupA (N : Nat) : Rd Nat → Value
  | .bad e => .tuple #[.int .i64 0, .int .i64 0, .int .i64 (e : Int)]
  | .good n r => .tuple #[.int .i64 (n : Int), .int .i64 ((N - r.length : Nat) : Int), .int .i64 0]
set_option maxRecDepth 100000 in
set_option maxHeartbeats 2000000 in
theorem number_any (s : ByteArray) (at_ : Nat) (hat : at_ ≤ s.size) (hs : s.size ≤ 9223372036854775000) (w : World) :
    Calls Tryz.prog 103 #[.string s, .int .i64 (at_ : Int)] w fun r w' => r = .returned (tupA s.size (rdNum (s.data.toList.drop at_))) ∧ w' = w := by
  obtain ⟨R, hR⟩ : ∃ R, Hid (rdNum (s.data.toList.drop at_) = R) := ⟨_, rfl⟩
  rw [hR.out]
  go_enter Tryz.func103, Tryz.ntmps103
  go_wp2
  go_loopw [7, 8, 9] (fun n un i w' => ∃ (k acc u : Nat), k ≤ 8 ∧ at_ + k ≤ s.size ∧ i = .int .i64 k ∧ n = .int .i64 (acc : Int) ∧ un = .int .i64 (u : Int) ∧ Hid (u = 128 ^ k) ∧ acc < u ∧ u ≤ 72057594037927936 ∧ Hid (rdDig (s.data.toList.drop (at_ + k)) k acc = R) ∧ w' = w) (fun _ _ i _ => 9 - (intOf i).toNat)
  case atStart => exact ⟨0, 0, 1, by omega, by omega, rfl, rfl, rfl, rfl, by omega, by omega, hR.out, rfl⟩
  case round =>
    obtain ⟨k, acc, u, hk, hks, rfl, rfl, rfl, hu, ha, hub, hr, rfl⟩ := hrel
    by_cases hlt : at_ + k < s.size
    · have b1 : (at_ : Int) + (k : Int) < (s.size : Int) := by omega
      obtain ⟨x, hx, hx2, hi, hi2⟩ := index_any s ((at_ : Int) + (k : Int)) (at_ + k) (by omega) hlt
      have hcons : s.data.toList.drop (at_ + k) = UInt8.ofNat x :: s.data.toList.drop (at_ + k + 1) := by
        have hk' : at_ + k < s.data.toList.length := by rw [data_length]; exact hlt
        rw [List.drop_eq_getElem_cons hk']
        congr 1
        rw [hx.out, List.getD_eq_getElem?_getD, List.getElem?_eq_getElem hk']
        simp
      have hxu : (UInt8.ofNat x).toNat = x := by simp; omega
      have hr2 := hr.out
      rw [hcons, rdDig, if_neg (by omega), hxu, ← hu.out] at hr2
      have hs0 := hi2 hlt
      clear hcons hxu hi2 hi
      obtain ⟨z, hz⟩ : ∃ z : Nat, Hid (x % 128 * u = z) := ⟨_, rfl⟩
      have hz2 : z ≤ 127 * u := by rw [← hz.out]; exact Nat.mul_le_mul_right _ (by omega)
      have hzi : (x : Int) % 128 * (u : Int) = (z : Int) := by rw [← hz.out, Int.natCast_mul]; rfl
      by_cases h8 : k = 8
      · subst h8
        have hu8 : u = 72057594037927936 := hu.out.trans (by decide)
        have b1' : (at_ : Int) + 8 < (s.size : Int) := by omega
        clear b1
        by_cases hge : 128 ≤ x
        · rw [if_pos hge] at hr2
          have b3 : ¬ (x : Int) < 128 := by omega
          have hb : R = .bad 20 := by
            rw [← hr2]
            cases s.data.toList.drop (at_ + 8 + 1) with
            | nil => rw [rdDig, if_pos rfl]
            | cons b r => rw [rdDig, if_pos rfl]
          subst hb
          clear hr2 hz hzi
          go_wp2
          go_ret3
          exact ⟨rfl, rfl⟩
        · rw [if_neg hge] at hr2
          have b3 : (x : Int) < 128 := by omega
          by_cases h0 : x = 0
          · subst h0
            rw [if_pos ⟨rfl, by omega⟩] at hr2
            subst hr2
            clear hz hzi
            go_wp2
            go_ret3
            exact ⟨rfl, rfl⟩
          · rw [if_neg (by omega)] at hr2
            have b4 : ((x : Int) == 0) = false := by simp; omega
            have hm : (x : Int) % 128 = (x : Int) := by omega
            have hxz : x * u = z := by rw [← hz.out, Nat.mod_eq_of_lt (by omega)]
            rw [hm] at hzi
            rw [hxz] at hr2
            rw [hu8] at hxz
            by_cases h64 : 64 < x
            · rw [if_pos (by rw [top]; omega)] at hr2
              subst hr2
              have b5 : (64 : Int) < (x : Int) := by omega
              clear hz hxz
              go_wp2
              go_ret3
              exact ⟨rfl, rfl⟩
            · have b5 : ¬ (64 : Int) < (x : Int) := by omega
              by_cases h65 : x = 64
              · by_cases ha0 : 0 < acc
                · rw [if_pos (by rw [top]; omega)] at hr2
                  subst hr2
                  have b6 : (0 : Int) < (acc : Int) := by omega
                  subst h65
                  clear hz hxz hzi
                  go_wp2
                  go_ret3
                  exact ⟨rfl, rfl⟩
                · rw [if_neg (by rw [top]; omega)] at hr2
                  have b6 : ¬ (0 : Int) < (acc : Int) := by omega
                  subst h65 hu8
                  subst hr2
                  obtain rfl : acc = 0 := by omega
                  obtain rfl : z = 4611686018427387904 := by omega
                  clear hz hxz hzi
                  go_wp2
                  go_ret3
                  refine ⟨?_, rfl⟩
                  rw [tupA, List.length_drop, data_length, show s.size - (s.size - (at_ + 8 + 1)) = at_ + 8 + 1 from by omega]
                  rfl
              · rw [if_neg (by rw [top]; omega)] at hr2
                have b7 : ((x : Int) == 64) = false := by simp; omega
                have c1 : (acc : Int) + (z : Int) ≤ 9223372036854775807 := by omega
                have c2 : (z : Int) ≤ 9223372036854775807 := by omega
                subst hr2
                have hub2 : (u : Int) ≤ 72057594037927936 := by omega
                clear hz hxz hu8 hub
                go_wp2
                go_ret3
                refine ⟨?_, rfl⟩
                rw [tupA, List.length_drop, data_length, show s.size - (s.size - (at_ + 8 + 1)) = at_ + 8 + 1 from by omega]
                rfl
      · have b4 : ((k : Int) == 8) = false := by simp; omega
        by_cases hge : 128 ≤ x
        · rw [if_pos hge, hz.out] at hr2
          have b3 : ¬ (x : Int) < 128 := by omega
          have HR2 := hid hr2
          have hu8 : u * 128 ≤ 72057594037927936 := by
            have := pow128_le (show k + 1 ≤ 8 by omega)
            rw [Nat.pow_succ, ← hu.out] at this
            exact this
          have hu9 : (u : Int) * 128 ≤ 72057594037927936 := by omega
          clear hr2
          go_wp2
          exact ⟨⟨k + 1, acc + z, u * 128, by omega, by omega, by go_num, by go_num, by go_num, by show _ = _; rw [hu.out, Nat.pow_succ], by omega, by omega, HR2, trivial⟩, by simp [intOf]; omega⟩
        · rw [if_neg hge] at hr2
          have b3 : (x : Int) < 128 := by omega
          have hm : (x : Int) % 128 = (x : Int) := by omega
          have hxz : x * u = z := by rw [← hz.out, Nat.mod_eq_of_lt (by omega)]
          rw [hm] at hzi
          have hu7 : u ≤ 562949953421312 := by
            have h := Nat.pow_le_pow_right (show 0 < 128 by omega) (show k ≤ 7 by omega)
            rw [← hu.out] at h
            have e : 128 ^ 7 = 562949953421312 := by decide
            omega
          by_cases h0 : x = 0
          · subst h0
            by_cases hk0 : 0 < k
            · rw [if_pos ⟨rfl, hk0⟩] at hr2
              subst hr2
              have b5 : (0 : Int) < (k : Int) := by omega
              clear hz hzi hxz
              go_wp2
              go_ret3
              exact ⟨rfl, rfl⟩
            · rw [if_neg (by omega), hxz, if_neg (by rw [top]; omega)] at hr2
              obtain rfl : k = 0 := by omega
              have hu1 : u = 1 := hu.out
              subst hu1
              obtain rfl : acc = 0 := by omega
              obtain rfl : z = 0 := by omega
              have b1' : (at_ : Int) < (s.size : Int) := by omega
              subst hr2
              have hs1 : (s[at_]'(by omega)).toNat = 0 := hs0
              clear hz hzi hxz b4 b1 hs0
              go_wp2
              go_ret3
              refine ⟨?_, rfl⟩
              rw [tupA, List.length_drop, data_length, show s.size - (s.size - (at_ + 0 + 1)) = at_ + 1 from by omega]
              rfl
          · rw [if_neg (by omega), hxz, if_neg (by rw [top]; omega)] at hr2
            have b5 : ((x : Int) == 0) = false := by simp; omega
            have c1 : (acc : Int) + (z : Int) ≤ 9223372036854775807 := by omega
            have c2 : (z : Int) ≤ 9223372036854775807 := by omega
            subst hr2
            clear hz hxz
            go_wp2
            go_ret3
            refine ⟨?_, rfl⟩
            rw [tupA, List.length_drop, data_length, show s.size - (s.size - (at_ + k + 1)) = at_ + k + 1 from by omega]
            rfl
    · have b1 : ¬ (at_ : Int) + (k : Int) < (s.size : Int) := by omega
      have hb : R = .bad 21 := by
        rw [← hr.out, List.drop_eq_nil_of_le (by rw [data_length]; omega), rdDig, if_neg (by omega)]
      subst hb
      go_wp2
      go_ret3
      exact ⟨rfl, rfl⟩
end Go.Proofs.YtmhgdcfmfcjagaaGreatDoor

namespace Go.Proofs.YtmhgdcfmfcjagaaGreatDoor
open Go.RowKit Cod

def tupT (N : Nat) : Rd (List UInt8) → Value
  | .bad e => .tuple #[sv [], .int .i64 0, .int .i64 (e : Int)]
  | .good t r => .tuple #[sv t, .int .i64 ((N - r.length : Nat) : Int), .int .i64 0]
theorem sv_mid (s : ByteArray) (a n : Nat) : sv ((s.data.toList.drop a).take n) = .string (s.extract a (a + n)) := by
  rw [← sv_of, Lib.extract_data, show a + n - a = n from by omega]
theorem num_rest {l : List UInt8} {a n : Nat} {r : List UInt8} (h : rdNum (l.drop a) = .good n r) (ha : a ≤ l.length) : r = l.drop (l.length - r.length) ∧ r.length + 1 ≤ l.length - a := by
  obtain ⟨p, hp⟩ := pf_num.ends _ _ _ h
  have h1 := num_len h
  rw [List.length_drop] at h1
  refine ⟨?_, h1⟩
  have e : l.drop a = p ++ r := hp
  have hl := congrArg List.length e
  rw [List.length_drop, List.length_append] at hl
  rw [show l.length - r.length = a + p.length from by omega, ← List.drop_drop, e, List.drop_left]

set_option maxRecDepth 100000 in
set_option maxHeartbeats 1000000 in
theorem rtext_any (s : ByteArray) (at_ : Nat) (most : Int) (hm : 0 ≤ most) (hat : at_ ≤ s.size) (hs : s.size ≤ 4611686018427380000) (w : World) :
    Calls Tryz.prog 100 #[.string s, .int .i64 (at_ : Int), .int .i64 most] w fun r w' => r = .returned (tupT s.size (rdText (s.data.toList.drop at_) most)) ∧ w' = w := by
  have hN := number_any s at_ hat (by omega) w
  rw [rdText, rdMany, if_neg (by omega)]
  cases hR : rdNum (s.data.toList.drop at_) with
  | bad e =>
    have he := nz_num _ e hR
    have he' : ((e : Int) == 0) = false := by simp; omega
    rw [hR] at hN
    simp only [tupA] at hN
    clear hR
    rw [Rd.bind_bad, Rd.bind_bad]
    go_enter Tryz.func100, Tryz.ntmps100
    go_wp2_with (go_at_call 103; refine hN.mono ?_; rintro x w1 ⟨rfl, hw'⟩; rw [hw']; clear hw' w1)
    go_ret3
    exact ⟨rfl, rfl⟩
  | good n r =>
    obtain ⟨h1, h2⟩ := num_rest hR (by rw [data_length]; exact hat)
    have h62 := (num_back hR).2
    rw [top] at h62
    rw [data_length] at h1 h2
    rw [hR] at hN
    simp only [tupA] at hN
    clear hR
    rw [Rd.bind_good]
    obtain ⟨to_, hto⟩ : ∃ to_, s.size - r.length = to_ := ⟨_, rfl⟩
    rw [hto] at hN h1
    have hrl : r.length = s.size - to_ := by omega
    have ht2 : to_ ≤ s.size := by omega
    by_cases hc : most < (n : Int)
    · rw [if_pos hc, Rd.bind_bad]
      clear h1 hto hrl
      go_enter Tryz.func100, Tryz.ntmps100
      go_wp2_with (go_at_call 103; refine hN.mono ?_; rintro x w1 ⟨rfl, hw'⟩; rw [hw']; clear hw' w1)
      go_ret3
      exact ⟨rfl, rfl⟩
    · rw [if_neg hc, Rd.bind_good, rdRaw, if_neg (by omega), hrl]
      by_cases hd : ((s.size - to_ : Nat) : Int) < (n : Int)
      · rw [if_pos hd]
        have b0 : (s.size : Int) - (to_ : Int) < (n : Int) := by omega
        have b1 : (to_ : Int) ≤ (s.size : Int) := by omega
        clear h1 hto hrl hd
        go_enter Tryz.func100, Tryz.ntmps100
        go_wp2_with (go_at_call 103; refine hN.mono ?_; rintro x w1 ⟨rfl, hw'⟩; rw [hw']; clear hw' w1)
        go_ret3
        exact ⟨rfl, rfl⟩
      · rw [if_neg hd, Int.toNat_natCast]
        have b0 : ¬ (s.size : Int) - (to_ : Int) < (n : Int) := by omega
        have b1 : (to_ : Int) ≤ (s.size : Int) := by omega
        have b2 : (to_ : Int) + (n : Int) ≤ (s.size : Int) := by omega
        have e1 : tupT s.size (.good (r.take n) (r.drop n)) = .tuple #[.string (s.extract to_ (to_ + n)), .int .i64 ((to_ + n : Nat) : Int), .int .i64 0] := by
          rw [tupT, List.length_drop, hrl, h1, sv_mid, show s.size - (s.size - to_ - n) = to_ + n from by omega]
        rw [e1]
        have t1 : ((to_ : Int) + (n : Int)).toNat = to_ + n := by omega
        clear h1 hto hrl hd e1
        go_enter Tryz.func100, Tryz.ntmps100
        go_wp2_with (go_at_call 103; refine hN.mono ?_; rintro x w1 ⟨rfl, hw'⟩; rw [hw']; clear hw' w1)
        go_ret3
        exact ⟨rfl, rfl⟩
theorem text_rest {l : List UInt8} {a : Nat} {m : Int} {t r : List UInt8} (h : rdText (l.drop a) m = .good t r) (ha : a ≤ l.length) : r = l.drop (l.length - r.length) ∧ r.length + 1 ≤ l.length - a := by
  obtain ⟨p, hp⟩ := (pf_text m).ends _ _ _ h
  have h1 := text_len h
  rw [List.length_drop] at h1
  refine ⟨?_, h1⟩
  have e : l.drop a = p ++ r := hp
  have hl := congrArg List.length e
  rw [List.length_drop, List.length_append] at hl
  rw [show l.length - r.length = a + p.length from by omega, ← List.drop_drop, e, List.drop_left]

set_option maxRecDepth 100000 in
theorem rframe_any (s : ByteArray) (w : World) :
    Calls Tryz.prog 37 #[.string s] w fun r w' => r = .returned (if 1048576 < s.size then .tuple #[sv [], .int .i64 22] else .tuple #[sv (wrText s.data.toList), .int .i64 0]) ∧ Below w.heap.size w w' := by
  by_cases h : 1048576 < s.size
  · rw [if_pos h]
    have h' : (1048576 : Int) < (s.size : Int) := by omega
    go_enter Tryz.func37, Tryz.ntmps37
    go_wp2
    go_ret2
    exact ⟨rfl, Below.refl _ _⟩
  · rw [if_neg h]
    have h' : ¬ (1048576 : Int) < (s.size : Int) := by omega
    have h9 : (digs s.size).length ≤ 9 := digs_len9 (by omega)
    have hD := digits_any s.size (by omega) w
    have hadd := add_sv Tryz.prog 9 (digs s.size) s.data.toList (by rw [data_length]; omega)
    rw [sv_of] at hadd
    have e : digs s.size ++ s.data.toList = wrText s.data.toList := by rw [wrText, data_length]
    rw [e] at hadd
    clear e h9
    go_enter Tryz.func37, Tryz.ntmps37
    go_wp2_with (go_at_call 73; refine hD.mono ?_; rintro x w1 ⟨rfl, h1⟩; have H1 := hid h1; clear h1)
    go_ret2
    exact ⟨rfl, H1.out⟩
set_option maxRecDepth 100000 in
theorem runframe_any (s : ByteArray) (w : World) (hs : s.size ≤ 4611686018427380000) :
    Calls Tryz.prog 82 #[.string s] w fun r w' => r = .returned (tupS (rdText s.data.toList 1048576)) ∧ Below w.heap.size w w' := by
  have hN := rtext_any s 0 1048576 (by omega) (by omega) hs w
  rw [List.drop_zero] at hN
  cases hR : rdText s.data.toList 1048576 with
  | bad e =>
    have he := nz_text _ _ e hR
    have he' : ((e : Int) == 0) = false := by simp; omega
    rw [hR] at hN
    simp only [tupT] at hN
    clear hR
    go_enter Tryz.func82, Tryz.ntmps82
    go_wp2_with (go_at_call 100; refine hN.mono ?_; rintro x w1 ⟨rfl, hw'⟩; rw [hw']; clear hw' w1)
    go_ret3
    exact ⟨rfl, Below.refl _ _⟩
  | good t r =>
    obtain ⟨h1, h2⟩ := text_rest (a := 0) (by rw [List.drop_zero]; exact hR) (Nat.zero_le _)
    rw [data_length] at h1 h2
    rw [hR] at hN
    simp only [tupT] at hN
    clear hR
    obtain ⟨to_, hto⟩ : ∃ to_, s.size - r.length = to_ := ⟨_, rfl⟩
    rw [hto] at hN h1
    have ht2 : (to_ : Int) ≤ (s.size : Int) := by omega
    have e1 : tupS (.good t r) = .tuple #[sv t, .string (s.extract to_ s.size), .int .i64 0] := by rw [tupS, h1, sv_drop]
    rw [e1]
    clear e1 h1 hto
    go_enter Tryz.func82, Tryz.ntmps82
    go_wp2_with (go_at_call 100; refine hN.mono ?_; rintro x w1 ⟨rfl, hw'⟩; rw [hw']; clear hw' w1)
    go_quiet (fail)
    go_wp2
    go_ret3
    exact ⟨rfl, below_drewN (Below.refl _ _) _⟩
end Go.Proofs.YtmhgdcfmfcjagaaGreatDoor

namespace Go.Proofs.YtmhgdcfmfcjagaaGreatDoor
open Go.RowKit Cod

theorem pairF (s : ByteArray) : ∃ (b : ByteArray) (e : Int), (if 1048576 < s.size then Value.tuple #[sv [], .int .i64 22] else .tuple #[sv (wrText s.data.toList), .int .i64 0]) = .tuple #[.string b, .int .i64 e] := by
  by_cases h : 1048576 < s.size
  · rw [if_pos h]; exact ⟨_, _, rfl⟩
  · rw [if_neg h]; exact ⟨_, _, rfl⟩
theorem tripS (x : Rd (List UInt8)) : ∃ (a b : ByteArray) (e : Int), tupS x = .tuple #[.string a, .string b, .int .i64 e] := by
  cases x <;> exact ⟨_, _, _, rfl⟩
end Go.Proofs.YtmhgdcfmfcjagaaGreatDoor

namespace Go.Proofs.YtmhgdcfmfcjagaaGreatDoor
open Go.RowKit Cod

theorem pk_nat (c n : Int) (hn : 0 < n) : ∃ r : Nat, Hid (pk c n = (r : Int)) ∧ (r : Int) < n := by
  have h1 := pk_nonneg c n hn
  have h2 := pk_lt c n hn
  exact ⟨(pk c n).toNat, by unfold Hid; omega, by omega⟩
set_option maxRecDepth 100000 in
/-- make([]byte, c) -/
theorem make_bytes (w : World) (c : Nat) (hc : c ≤ 20000000) :
    (Instr.makeSlice 91 (.int .i64 (c : Int)) (.int .i64 (c : Int))).run Tryz.prog w = .ok (.slice (some ⟨w.heap.size, 0, none⟩) c c) (w.alloc (.cells (bv (List.replicate c 0)).toArray 5)) := by
  obtain ⟨i0, hi, hz0, hz1, hz2⟩ := info_parts info5'
  have h := run_make (P := Tryz.prog) w 91 5 i0 (.int .u8 0) Tryz.underlying91 hi hz0 .i64 .i64 (c : Int) (c : Int) (by omega) (by omega) (by rw [hz2]; omega) (by omega)
  rw [Int.toNat_natCast, hz1, Nat.mul_one] at h
  rw [h]
  congr 3
  apply Array.ext'
  rw [show (madeCells (Value.int .u8 0).cells c).toList = List.replicate c (.int .u8 0) from toList_madeCells_one _ _]
  simp [bv]
theorem conv_row (w : World) (bs : List UInt8) (n : Nat) (hn : bs.length = n) :
    (convert 91 9 (.slice (some ⟨w.heap.size, 0, none⟩) n n)).run Tryz.prog (w.alloc (.cells (bv bs).toArray 5)) = .ok (sv bs) (w.alloc (.cells (bv bs).toArray 5)) := by
  refine run_conv_bytes (P := Tryz.prog) _ 91 9 5 w.heap.size 0 n n bs hn Tryz.underlying91 Tryz.underlying5 Tryz.underlying9 (fun j v hv => ?_)
  rw [cell_of_row _ _ _ _ _ _ (heap_alloc_new w _), Nat.zero_add]
  simpa using hv

theorem app_data (a b : ByteArray) : (a ++ b).data.toList = a.data.toList ++ b.data.toList := by
  cases a; cases b
  rw [ByteArray.mk_append_mk]
end Go.Proofs.YtmhgdcfmfcjagaaGreatDoor

namespace Go.Proofs.YtmhgdcfmfcjagaaGreatDoor
open Go.RowKit Cod

namespace Cod
/-- what is wrong has a number below 24 -/
def NW {α : Type} (x : Rd α) : Prop := ∀ e, x = .bad e → e < 24
theorem NW.bind {α β : Type} {x : Rd α} {k : α → List UInt8 → Rd β} (h : NW x) (hk : ∀ v r, NW (k v r)) : NW (x.bind k) := by
  cases x with
  | bad e => intro f hf; exact h f (by rw [Rd.bind_bad] at hf; injection hf with hf; rw [hf])
  | good v r => exact hk v r
theorem NW.good {α : Type} (v : α) (r : List UInt8) : NW (Rd.good v r) := fun e h => by cases h
theorem NW.bad {α : Type} {e : Nat} (h : e < 24) : NW (Rd.bad e : Rd α) := fun f hf => by injection hf with hf; omega
theorem NW.ite {α : Type} {c : Prop} [Decidable c] {x y : Rd α} (hx : NW x) (hy : NW y) : NW (if c then x else y) := by split <;> assumption
theorem nw_dig : ∀ (s : List UInt8) (i acc : Nat), NW (rdDig s i acc)
  | [], i, acc => NW.ite (NW.bad (by omega)) (NW.bad (by omega))
  | b :: r, i, acc => NW.ite (NW.bad (by omega)) (NW.ite (nw_dig r _ _) (NW.ite (NW.bad (by omega)) (NW.ite (NW.bad (by omega)) (NW.good _ _))))
theorem nw_num (s : List UInt8) : NW (rdNum s) := nw_dig s 0 0
theorem nw_byte (s : List UInt8) : NW (rdByte s) := by cases s <;> first | exact NW.bad (by omega) | exact NW.good _ _
theorem nw_many (s : List UInt8) (m : Int) : NW (rdMany s m) := NW.ite (NW.bad (by omega)) (NW.bind (nw_num s) fun _ _ => NW.ite (NW.bad (by omega)) (NW.good _ _))
theorem nw_raw (s : List UInt8) (n : Int) : NW (rdRaw s n) := NW.ite (NW.bad (by omega)) (NW.ite (NW.bad (by omega)) (NW.good _ _))
theorem nw_text (s : List UInt8) (m : Int) : NW (rdText s m) := NW.bind (nw_many s m) fun _ _ => nw_raw _ _
theorem nw_textsN (m : Int) : ∀ n l s, NW (rdTextsN m n l s)
  | 0, _, _ => NW.good _ _
  | n + 1, _, s => NW.bind (nw_text s m) fun _ _ => nw_textsN m n _ _
theorem nw_texts (s : List UInt8) (many m : Int) : NW (rdTexts s many m) := NW.ite (NW.bad (by omega)) (NW.bind (nw_many s many) fun _ _ => nw_textsN m _ _ _)
theorem nw_riseN : ∀ n a l s, NW (rdRiseN n a l s)
  | 0, _, _, _ => NW.good _ _
  | n + 1, _, _, s => NW.bind (nw_num s) fun _ _ => NW.ite (NW.bad (by omega)) (nw_riseN n _ _ _)
theorem nw_rising (s : List UInt8) (many : Int) : NW (rdRising s many) := NW.bind (nw_many s many) fun _ _ => nw_riseN _ _ _ _
theorem nw_hashN : ∀ n l s, NW (rdHashN n l s)
  | 0, _, _ => NW.good _ _
  | n + 1, _, _ => nw_hashN n _ _
theorem nw_hashes (s : List UInt8) (many : Int) : NW (rdHashes s many) := NW.bind (nw_many s many) fun _ _ => NW.ite (NW.bad (by omega)) (nw_hashN _ _ _)

theorem rise_len : ∀ (least : Nat) (L : List Nat), Rises least L → (wrRise least L).length ≤ 9 * L.length
  | _, [], _ => by simp [wrRise]
  | least, n :: L, h => by
    obtain ⟨h1, h2, h3⟩ := h
    have := rise_len _ L h3
    have := digs_len9 (n := n - least) (by rw [top] at h2; omega)
    rw [wrRise, List.length_append, List.length_cons]
    omega
theorem texts_len : ∀ (L : List (List UInt8)) (m : Nat), m ≤ 1000 → (∀ t ∈ L, t.length ≤ m) → ((L.map wrText).flatten).length ≤ (9 + m) * L.length
  | [], _, _, _ => by simp
  | t :: L, m, hm, h => by
    have h1 := h t (by simp)
    have h2 := texts_len L m hm (fun u hu => h u (by simp [hu]))
    have := digs_len9 (n := t.length) (by omega)
    rw [List.map_cons, List.flatten_cons, List.length_append, wrText, List.length_append, List.length_cons, Nat.mul_add]
    omega
end Cod

/-- numbers as whole numbers -/
def ints (L : List Nat) : List Int := L.map Int.ofNat
theorem ints_toNat (L : List Nat) : (ints L).map Int.toNat = L := by
  rw [ints, List.map_map]
  conv => rhs; rw [← List.map_id L]
  apply List.map_congr_left
  intro a _
  rfl
theorem rises_of : ∀ (L : List Nat) (least : Nat), Rises least L → risesB ((least : Int) - 1) (ints L) = true
  | [], _, _ => rfl
  | n :: L, least, h => by
    obtain ⟨h1, h2, h3⟩ := h
    have := rises_of L (n + 1) h3
    rw [top] at h2
    show (decide _ && risesB (n : Int) (ints L)) = true
    rw [show ((n + 1 : Nat) : Int) - 1 = (n : Int) from by omega] at this
    rw [this, Bool.and_true]
    exact decide_eq_true ⟨by simp, by simp; omega, by simp; omega⟩
theorem of_rises : ∀ (l : List Int) (last : Int), -1 ≤ last → risesB last l = true → ∃ L, l = ints L ∧ Rises (last + 1).toNat L
  | [], _, _, _ => ⟨[], rfl, trivial⟩
  | n :: l, last, hl, h => by
    rw [risesB, Bool.and_eq_true, decide_eq_true_eq] at h
    obtain ⟨⟨h1, h2, h3⟩, h4⟩ := h
    obtain ⟨L, rfl, hL⟩ := of_rises l n (by omega) h4
    obtain ⟨m, rfl⟩ := Int.eq_ofNat_of_zero_le h1
    refine ⟨m :: L, rfl, by omega, by rw [top]; omega, ?_⟩
    rwa [show ((m : Int) + 1).toNat = m + 1 from by omega] at hL
theorem byte_again {s : List UInt8} {n : Nat} {r : List UInt8} (h : rdByte s = .good n r) : byteErr (n : Int) = 0 ∧ s = [UInt8.ofNat (n : Int).toNat] ++ r := by
  obtain ⟨h1, h2⟩ := byte_back h
  exact ⟨by rw [byteErr, if_neg (by omega)], by rw [Int.toNat_natCast]; exact h1⟩
theorem num_again {s : List UInt8} {n : Nat} {r : List UInt8} (h : rdNum s = .good n r) : numErr (n : Int) = 0 ∧ s = digs (n : Int).toNat ++ r ∧ n ≤ 4611686018427387904 := by
  obtain ⟨h1, h2⟩ := num_back h
  rw [top] at h2
  exact ⟨by rw [numErr, if_neg (by omega)], by rw [Int.toNat_natCast]; exact h1, h2⟩
theorem rising_again {s : List UInt8} {m : Int} {L : List Nat} {r : List UInt8} (h : rdRising s m = .good L r) :
    risingErr (ints L) = 0 ∧ s = wrRising ((ints L).map Int.toNat) ++ r ∧ (L.length : Int) ≤ m ∧ (m ≤ 40 → (wrRising ((ints L).map Int.toNat)).length ≤ 400) ∧ ∀ n ∈ L, n ≤ 4611686018427387904 := by
  obtain ⟨h1, h2, h3, _, h5⟩ := rising_back h
  rw [ints_toNat]
  refine ⟨by rw [risingErr, if_pos (by simpa using rises_of L 0 h5)], h1, h3, fun hm => ?_, ?_⟩
  · have := rise_len 0 L h5
    have := digs_len9 (n := L.length) (by omega)
    rw [wrRising, List.length_append]
    omega
  · clear h1 h3 h
    have key : ∀ (L : List Nat) (a : Nat), Rises a L → ∀ n ∈ L, n ≤ 4611686018427387904 := by
      intro L
      induction L with
      | nil => intro a _ n hn; cases hn
      | cons b L ih =>
        intro a h n hn
        obtain ⟨_, g2, g3⟩ := h
        rcases List.mem_cons.1 hn with rfl | hn
        · exact g2
        · exact ih _ g3 n hn
    exact key L 0 h5
theorem text_again {s : List UInt8} {m : Int} {t r : List UInt8} (h : rdText s m = .good t r) : textErr t.length m = 0 ∧ s = wrText t ++ r ∧ (t.length : Int) ≤ m ∧ (m ≤ 40 → (wrText t).length ≤ 60) := by
  obtain ⟨h1, _, h3, h4⟩ := text_back h
  refine ⟨by rw [textErr, if_neg (by omega), if_neg (by omega)], h1, h3, fun hm => ?_⟩
  have := digs_len9 (n := t.length) (by omega)
  rw [wrText, List.length_append]
  omega
theorem texts_again {s : List UInt8} {m : Int} {L : List (List UInt8)} {r : List UInt8} (h : rdTexts s m 9 = .good L r) : textsErr L m 9 = 0 ∧ s = wrTexts L ++ r ∧ (L.length : Int) ≤ m ∧ (m ≤ 40 → (wrTexts L).length ≤ 800) := by
  obtain ⟨h1, _, h3, _, h5, h6⟩ := texts_back h
  refine ⟨by rw [textsErr, if_neg (by omega), if_neg (by omega), if_pos (fun p hp => (h6 p hp).2)], h1, h3, fun hm => ?_⟩
  have := texts_len L 9 (by omega) (fun t ht => by have := (h6 t ht).2; omega)
  have := digs_len9 (n := L.length) (by omega)
  rw [wrTexts, List.length_append]
  omega
theorem hashes_again {s : List UInt8} {m : Int} {L : List (List UInt8)} {r : List UInt8} (h : rdHashes s m = .good L r) : hashesErr L m = 0 ∧ s = wrHashes L ++ r ∧ (L.length : Int) ≤ m ∧ (m ≤ 40 → (wrHashes L).length ≤ 1300) := by
  obtain ⟨h1, _, h3, h4, h5⟩ := hashes_back h
  refine ⟨by rw [hashesErr, if_neg (by omega), if_neg (by omega), if_pos h5], h1, h3, fun hm => ?_⟩
  have := flatten32 L h5
  have := digs_len9 (n := L.length) (by omega)
  rw [wrHashes, List.length_append]
  omega
theorem raw_again {s : List UInt8} {n : Int} {t r : List UInt8} (h : rdRaw s n = .good t r) : s = t ++ r ∧ (t.length : Int) = n := raw_back h

theorem Own.slcI {w : World} {base : Nat} {v : Value} {L : List Nat} (h : Own w base v (nvs L)) : SlcI w v (ints L) := by
  rcases h with ⟨rfl, h0⟩ | ⟨g, cap, rfl, h1, h2, h3, h4, h5, h6⟩
  · have : L = [] := by simpa [nvs] using h0
    subst this
    exact ⟨none, 0, rfl, fun j c hc => by simp [ints] at hc⟩
  · refine ⟨some ⟨g, 0, none⟩, cap, by rw [nvs_length, ints, List.length_map], fun j c hc => ⟨_, rfl, h6, ?_⟩⟩
    rw [Addr.add_mid]
    refine h4 j _ ?_
    rw [ints, List.getElem?_map] at hc
    rw [nvs, List.getElem?_map]
    cases hL : L[j]? with
    | none => rw [hL] at hc; cases hc
    | some n => rw [hL] at hc; obtain rfl := Option.some.inj hc; rfl
theorem Own.slcT {w : World} {base : Nat} {v : Value} {L : List (List UInt8)} (h : Own w base v (svs L)) : Slc w v L := by
  rcases h with ⟨rfl, h0⟩ | ⟨g, cap, rfl, h1, h2, h3, h4, h5, h6⟩
  · have : L = [] := by simpa [svs] using h0
    subst this
    exact ⟨none, 0, rfl, fun j c hc => by simp at hc⟩
  · refine ⟨some ⟨g, 0, none⟩, cap, by rw [svs_length], fun j c hc => ⟨_, rfl, h6, ?_⟩⟩
    rw [Addr.add_mid]
    refine h4 j _ ?_
    rw [svs, List.getElem?_map, hc]; rfl
theorem Own.apart {w : World} {base : Nat} {v : Value} {cs : List Value} (h : Own w base v cs) {S : Nat → Prop} (hS : ∀ k, S k → k < base) : Apart v S := by
  intro x n c hv _ hs
  rcases h with ⟨rfl, _⟩ | ⟨g, cap, rfl, h1, _⟩
  · cases hv
  · cases hv
    have := hS _ hs
    exact absurd h1 (by show ¬ base ≤ g; exact Nat.not_le.2 this)

/-- a Reader and a Writer, both of the call's own -/
structure Duo (w : World) (B RB WB : Nat) (wr : World) (v : Value) (st : RS) (ws : WSt) : Prop where
  rd : Rdr wr RB st
  wri : Wri wr B WB v ws
  ap : ¬ WS WB v RB
  bl : Below B w wr
  lo : B ≤ RB
  sz : B ≤ w.heap.size
theorem Duo.base {w : World} {B RB WB : Nat} {wr : World} {v : Value} {st : RS} {ws : WSt} (D : Duo w B RB WB wr v st ws) : B ≤ wr.heap.size := Nat.le_trans D.sz D.bl.size
theorem Duo.read {w : World} {B RB WB : Nat} {wr : World} {v : Value} {st : RS} {ws : WSt} (D : Duo w B RB WB wr v st ws) {w1 : World} {st1 : RS} (h1 : Rdr w1 RB st1) (h2 : But RB wr w1) : Duo w B RB WB w1 v st1 ws :=
  ⟨h1, D.wri.keep (S := fun k => k = RB) (Keep.ofBut h2 rfl) (fun _ hk e => D.ap (e ▸ hk)), D.ap, D.bl.trans (h2.below D.lo D.base), D.lo, D.sz⟩
theorem Duo.below {w : World} {B RB WB : Nat} {wr : World} {v : Value} {st : RS} {ws : WSt} (D : Duo w B RB WB wr v st ws) {w1 : World} (h : Below wr.heap.size wr w1) : Duo w B RB WB w1 v st ws :=
  ⟨D.rd.below h, D.wri.below h, D.ap, D.bl.trans (h.mono D.base), D.lo, D.sz⟩
theorem Duo.write {w : World} {B RB WB : Nat} {wr : World} {v : Value} {st : RS} {ws : WSt} (D : Duo w B RB WB wr v st ws) {w1 : World} {v1 : Value} {ws1 : WSt} (h1 : Wri w1 B WB v1 ws1) (h2 : Keep (WS WB v) wr w1) (h3 : From wr v v1) : Duo w B RB WB w1 v1 st ws1 :=
  ⟨D.rd.keep h2 D.ap, h1, fun e => by
    rcases e with e | e
    · exact D.ap (.inl e)
    · rcases h3 _ e with h | h
      · exact D.ap (.inr h)
      · have := D.rd.lt
        omega, D.bl.trans (D.wri.post_below D.base h2), D.lo, D.sz⟩
end Go.Proofs.YtmhgdcfmfcjagaaGreatDoor
