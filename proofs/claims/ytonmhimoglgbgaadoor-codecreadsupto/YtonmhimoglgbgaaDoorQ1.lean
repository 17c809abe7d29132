import Derived.Test.YtonmhimoglgbgaaDoorP1
namespace Go.Proofs.YtonmhimoglgbgaaDoor
open Go.RowKit Cod

theorem one_byte (w : World) (x : UInt8) (z : Int) (hz : z = (x.toNat : Int)) :
    (convert 57 9 (.slice (some ⟨w.heap.size, 0, none⟩) 1 1)).run Tryd.prog (w.alloc (.cells #[.int .u8 z] 5)) = .ok (sv [x]) (w.alloc (.cells #[.int .u8 z] 5)) := by
  subst hz
  refine run_conv_bytes (P := Tryd.prog) _ 57 9 5 w.heap.size 0 1 1 [x] rfl Tryd.underlying57 Tryd.underlying5 Tryd.underlying9 (fun j v hv => ?_)
  rw [cell_of_row _ _ _ _ _ _ (heap_alloc_new w _), Nat.zero_add]
  match j, hv with
  | 0, hv => obtain rfl := Option.some.inj hv; rfl

/-- what the document's reading leaves: of a text of N bytes -/
def tupA (N : Nat) : Rd Nat → Value
  | .bad e => .tuple #[.int .i64 0, .int .i64 0, .int .i64 (e : Int)]
  | .good n r => .tuple #[.int .i64 (n : Int), .int .i64 ((N - r.length : Nat) : Int), .int .i64 0]
set_option maxRecDepth 100000 in
set_option maxHeartbeats 2000000 in
theorem number_any (s : ByteArray) (at_ : Nat) (hat : at_ ≤ s.size) (hs : s.size ≤ 9223372036854775000) (w : World) :
    Calls Tryd.prog 82 #[.string s, .int .i64 (at_ : Int)] w fun r w' => r = .returned (tupA s.size (rdNum (s.data.toList.drop at_))) ∧ w' = w := by
  obtain ⟨R, hR⟩ : ∃ R, Hid (rdNum (s.data.toList.drop at_) = R) := ⟨_, rfl⟩
  rw [hR.out]
  go_enter Tryd.func82, Tryd.ntmps82
  go_wp2
  go_loopw [7, 8, 9] (fun n un i w' => ∃ (k acc u : Nat), k ≤ 8 ∧ at_ + k ≤ s.size ∧ i = .int .i64 k ∧ n = .int .i64 (acc : Int) ∧ un = .int .i64 (u : Int) ∧ Hid (u = 128 ^ k) ∧ acc < u ∧ u ≤ 72057594037927936 ∧ Hid (rdDig (s.data.toList.drop (at_ + k)) k acc = R) ∧ w' = w) (fun _ _ i _ => 9 - (intOf i).toNat)
  case atStart => exact ⟨0, 0, 1, by omega, by omega, rfl, rfl, rfl, rfl, by omega, by omega, hR.out, rfl⟩
  case round =>
    obtain ⟨k, acc, u, hk, hks, rfl, rfl, rfl, hu, ha, hub, hr, rfl⟩ := hrel
    by_cases hlt : at_ + k < s.size
    · have b1 : (at_ : Int) + (k : Int) < (s.size : Int) := by omega
      obtain ⟨x, hx, hx2, hi, hi2⟩ := index_any s ((at_ : Int) + (k : Int)) (at_ + k) (by omega) hlt
      have hcons : s.data.toList.drop (at_ + k) = UInt8.ofNat x :: s.data.toList.drop (at_ + k + 1) := by
        have hk' : at_ + k < s.data.toList.length := by rw [data_length]; exact hlt
        rw [List.drop_eq_getElem_cons hk']
        congr 1
        rw [hx.out, List.getD_eq_getElem?_getD, List.getElem?_eq_getElem hk']
        simp
      have hxu : (UInt8.ofNat x).toNat = x := by simp; omega
      have hr2 := hr.out
      rw [hcons, rdDig, if_neg (by omega), hxu, ← hu.out] at hr2
      have hs0 := hi2 hlt
      clear hcons hxu hi2 hi
      obtain ⟨z, hz⟩ : ∃ z : Nat, Hid (x % 128 * u = z) := ⟨_, rfl⟩
      have hz2 : z ≤ 127 * u := by rw [← hz.out]; exact Nat.mul_le_mul_right _ (by omega)
      have hzi : (x : Int) % 128 * (u : Int) = (z : Int) := by rw [← hz.out, Int.natCast_mul]; rfl
      by_cases h8 : k = 8
      · subst h8
        have hu8 : u = 72057594037927936 := hu.out.trans (by decide)
        have b1' : (at_ : Int) + 8 < (s.size : Int) := by omega
        clear b1
        by_cases hge : 128 ≤ x
        · rw [if_pos hge] at hr2
          have b3 : ¬ (x : Int) < 128 := by omega
          have hb : R = .bad 20 := by
            rw [← hr2]
            cases s.data.toList.drop (at_ + 8 + 1) with
            | nil => rw [rdDig, if_pos rfl]
            | cons b r => rw [rdDig, if_pos rfl]
          subst hb
          clear hr2 hz hzi
          go_wp2
          go_ret3
          exact ⟨rfl, rfl⟩
        · rw [if_neg hge] at hr2
          have b3 : (x : Int) < 128 := by omega
          by_cases h0 : x = 0
          · subst h0
            rw [if_pos ⟨rfl, by omega⟩] at hr2
            subst hr2
            clear hz hzi
            go_wp2
            go_ret3
            exact ⟨rfl, rfl⟩
          · rw [if_neg (by omega)] at hr2
            have b4 : ((x : Int) == 0) = false := by simp; omega
            have hm : (x : Int) % 128 = (x : Int) := by omega
            have hxz : x * u = z := by rw [← hz.out, Nat.mod_eq_of_lt (by omega)]
            rw [hm] at hzi
            rw [hxz] at hr2
            rw [hu8] at hxz
            by_cases h64 : 64 < x
            · rw [if_pos (by rw [top]; omega)] at hr2
              subst hr2
              have b5 : (64 : Int) < (x : Int) := by omega
              clear hz hxz
              go_wp2
              go_ret3
              exact ⟨rfl, rfl⟩
            · have b5 : ¬ (64 : Int) < (x : Int) := by omega
              by_cases h65 : x = 64
              · by_cases ha0 : 0 < acc
                · rw [if_pos (by rw [top]; omega)] at hr2
                  subst hr2
                  have b6 : (0 : Int) < (acc : Int) := by omega
                  subst h65
                  clear hz hxz hzi
                  go_wp2
                  go_ret3
                  exact ⟨rfl, rfl⟩
                · rw [if_neg (by rw [top]; omega)] at hr2
                  have b6 : ¬ (0 : Int) < (acc : Int) := by omega
                  subst h65 hu8
                  subst hr2
                  obtain rfl : acc = 0 := by omega
                  obtain rfl : z = 4611686018427387904 := by omega
                  clear hz hxz hzi
                  go_wp2
                  go_ret3
                  refine ⟨?_, rfl⟩
                  rw [tupA, List.length_drop, data_length, show s.size - (s.size - (at_ + 8 + 1)) = at_ + 8 + 1 from by omega]
                  rfl
              · rw [if_neg (by rw [top]; omega)] at hr2
                have b7 : ((x : Int) == 64) = false := by simp; omega
                have c1 : (acc : Int) + (z : Int) ≤ 9223372036854775807 := by omega
                have c2 : (z : Int) ≤ 9223372036854775807 := by omega
                subst hr2
                have hub2 : (u : Int) ≤ 72057594037927936 := by omega
                clear hz hxz hu8 hub
                go_wp2
                go_ret3
                refine ⟨?_, rfl⟩
                rw [tupA, List.length_drop, data_length, show s.size - (s.size - (at_ + 8 + 1)) = at_ + 8 + 1 from by omega]
                rfl
      · have b4 : ((k : Int) == 8) = false := by simp; omega
        by_cases hge : 128 ≤ x
        · rw [if_pos hge, hz.out] at hr2
          have b3 : ¬ (x : Int) < 128 := by omega
          have HR2 := hid hr2
          have hu8 : u * 128 ≤ 72057594037927936 := by
            have := pow128_le (show k + 1 ≤ 8 by omega)
            rw [Nat.pow_succ, ← hu.out] at this
            exact this
          have hu9 : (u : Int) * 128 ≤ 72057594037927936 := by omega
          clear hr2
          go_wp2
          exact ⟨⟨k + 1, acc + z, u * 128, by omega, by omega, by go_num, by go_num, by go_num, by show _ = _; rw [hu.out, Nat.pow_succ], by omega, by omega, HR2, trivial⟩, by simp [intOf]; omega⟩
        · rw [if_neg hge] at hr2
          have b3 : (x : Int) < 128 := by omega
          have hm : (x : Int) % 128 = (x : Int) := by omega
          have hxz : x * u = z := by rw [← hz.out, Nat.mod_eq_of_lt (by omega)]
          rw [hm] at hzi
          have hu7 : u ≤ 562949953421312 := by
            have h := Nat.pow_le_pow_right (show 0 < 128 by omega) (show k ≤ 7 by omega)
            rw [← hu.out] at h
            have e : 128 ^ 7 = 562949953421312 := by decide
            omega
          by_cases h0 : x = 0
          · subst h0
            by_cases hk0 : 0 < k
            · rw [if_pos ⟨rfl, hk0⟩] at hr2
              subst hr2
              have b5 : (0 : Int) < (k : Int) := by omega
              clear hz hzi hxz
              go_wp2
              go_ret3
              exact ⟨rfl, rfl⟩
            · rw [if_neg (by omega), hxz, if_neg (by rw [top]; omega)] at hr2
              obtain rfl : k = 0 := by omega
              have hu1 : u = 1 := hu.out
              subst hu1
              obtain rfl : acc = 0 := by omega
              obtain rfl : z = 0 := by omega
              have b1' : (at_ : Int) < (s.size : Int) := by omega
              subst hr2
              have hs1 : (s[at_]'(by omega)).toNat = 0 := hs0
              clear hz hzi hxz b4 b1 hs0
              go_wp2
              go_ret3
              refine ⟨?_, rfl⟩
              rw [tupA, List.length_drop, data_length, show s.size - (s.size - (at_ + 0 + 1)) = at_ + 1 from by omega]
              rfl
          · rw [if_neg (by omega), hxz, if_neg (by rw [top]; omega)] at hr2
            have b5 : ((x : Int) == 0) = false := by simp; omega
            have c1 : (acc : Int) + (z : Int) ≤ 9223372036854775807 := by omega
            have c2 : (z : Int) ≤ 9223372036854775807 := by omega
            subst hr2
            clear hz hxz
            go_wp2
            go_ret3
            refine ⟨?_, rfl⟩
            rw [tupA, List.length_drop, data_length, show s.size - (s.size - (at_ + k + 1)) = at_ + k + 1 from by omega]
            rfl
    · have b1 : ¬ (at_ : Int) + (k : Int) < (s.size : Int) := by omega
      have hb : R = .bad 21 := by
        rw [← hr.out, List.drop_eq_nil_of_le (by rw [data_length]; omega), rdDig, if_neg (by omega)]
      subst hb
      go_wp2
      go_ret3
      exact ⟨rfl, rfl⟩
end Go.Proofs.YtonmhimoglgbgaaDoor
