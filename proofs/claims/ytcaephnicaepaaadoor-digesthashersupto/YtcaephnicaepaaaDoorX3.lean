import Derived.Test.YtcaephnicaepaaaDoorX2
import Derived.Test.YtcaephnicaepaaaDoorM5
namespace Go.Proofs.YtcaephnicaepaaaDoor
open Go.RowKit

theorem or_add (a x : Nat) (ha : a < 65536) (hx : x < 256) : bits .or .u32 ((a : Int) * 256) (x : Int) = ((a * 256 + x : Nat) : Int) := by
  rw [show (a : Int) * 256 = ((a * 256 : Nat) : Int) from by omega, u32_or_nat _ _ (by omega) (by omega), nat_join 8 (a * 256) x (by omega) (by omega)]

theorem tab_at (i : Int) (k : Nat) (hi : i = (k : Int)) (hk : k < 64) : ∀ (h : i.toNat < (ByteArray.mk Tx.tab.toArray).size), ((ByteArray.mk Tx.tab.toArray)[i.toNat]'h).toNat = (Tx.sgn k).toNat := by
  subst hi
  intro h
  have h2 : k < Tx.tab.length := by rw [Tx.tab_length]; exact hk
  rw [Tx.sgn, List.getD_eq_getElem?_getD, List.getElem?_eq_getElem h2]
  rfl
theorem and63 (a : Nat) (ha : a < 4294967296) : bits .and .u32 (a : Int) 63 = ((a % 64 : Nat) : Int) := by
  rw [show (63 : Int) = ((63 : Nat) : Int) from rfl, u32_and_nat _ _ ha (by omega), nat_mask6]

set_option maxRecDepth 100000 in
set_option maxHeartbeats 1000000 in
theorem appendGroup_any (base : Nat) (v : Value) (bs : List UInt8) (g : ByteArray) (h1 : 1 ≤ g.size) (h3 : g.size ≤ 3) (w : World) (hown : OwnB w base v bs) (hlen : bs.length ≤ 140737488355000) (hbase : base ≤ w.heap.size) :
    Calls Tryd.prog 35 #[v, .string g] w fun e w' => ∃ v', e = .returned v' ∧ OwnB w' base v' (bs ++ Tx.grp g.data.toList) ∧ Below base w w' := by
  have Hown := hid hown
  clear hown
  have h1' : (1 : Int) ≤ (g.size : Int) := by omega
  have h3' : (g.size : Int) ≤ 3 := by omega
  go_enter Tryd.func35, Tryd.ntmps35
  go_wp2
  go_loop [5, 8] (fun n i => ∃ k : Nat, k ≤ 3 ∧ i = .int .i64 k ∧ n = .int .u32 (Tx.wk g.data.toList k : Nat)) (fun _ i => 3 - (intOf i).toNat)
  case atStart => exact ⟨0, by omega, rfl, rfl⟩
  case round =>
    obtain ⟨k, hk, rfl, rfl⟩ := hrel
    by_cases hlt : k < 3
    · have b0 : (k : Int) < 3 := by omega
      have lw : Tx.wk g.data.toList k < 65536 := by
        have := Tx.wk_lt g.data.toList k
        have h2 : 256 ^ k ≤ 256 ^ 2 := Nat.pow_le_pow_right (by decide) (by omega)
        omega
      have hwk := hid (show Tx.wk g.data.toList (k + 1) = Tx.wk g.data.toList k * 256 + (g.data.toList.getD k 0).toNat from rfl)
      by_cases hin : k < g.size
      · have hin' : (k : Int) < (g.size : Int) := by omega
        obtain ⟨x, ex, lx, _, jx⟩ := index_any g (k : Int) k rfl hin
        have hor := or_add (Tx.wk g.data.toList k) x lw lx
        rw [← ex.out] at hwk
        generalize Tx.wk g.data.toList k = a at *
        go_wp2
        exact ⟨⟨k + 1, by omega, by go_num, val_int (by rw [hwk.out]; omega)⟩, by simp [intOf]; omega⟩
      · have hin' : ¬ (k : Int) < (g.size : Int) := by omega
        have hz : (g.data.toList.getD k 0).toNat = 0 := by rw [List.getD_eq_getElem?_getD, List.getElem?_eq_none (by rw [data_length]; omega)]; rfl
        rw [hz] at hwk
        generalize Tx.wk g.data.toList k = a at *
        go_wp2
        exact ⟨⟨k + 1, by omega, by go_num, val_int (by rw [hwk.out]; omega)⟩, by simp [intOf]; omega⟩
    · obtain rfl : k = 3 := by omega
      have Hn := hid (Tx.wk_three g.data.toList)
      have ln : Tx.wk g.data.toList 3 < 16777216 := Tx.wk_lt g.data.toList 3
      generalize Tx.wk g.data.toList 3 = n at *
      generalize hm : g.size = m at *
      go_wp2
      go_loopw [0, 27] (fun v i w' => ∃ k : Nat, k ≤ m + 1 ∧ i = .int .i64 k ∧ OwnB w' base v (bs ++ (Tx.signs n).take k) ∧ Below base w w') (fun _ i _ => m + 1 - (intOf i).toNat)
      case atStart => exact ⟨0, by omega, rfl, by simpa using Hown.out, Below.refl _ _⟩
      case round =>
        obtain ⟨k, hk, rfl, hown, hb⟩ := hrel
        by_cases hlt : k < m + 1
        · have b0 : (k : Int) < (m : Int) + 1 := by omega
          have b1 : (k : Int) ≤ 3 := by omega
          have ediv : (n : Int) / 2 ^ (18 - 6 * k) = ((n / 2 ^ (18 - 6 * k) : Nat) : Int) := by rw [Int.natCast_ediv, Int.natCast_pow]; rfl
          have ldiv : n / 2 ^ (18 - 6 * k) < 4294967296 := Nat.lt_of_le_of_lt (Nat.div_le_self _ _) (by omega)
          have hand : bits .and .u32 ((n : Int) / 2 ^ (18 - 6 * k)) 63 = (n : Int) / 2 ^ (18 - 6 * k) % 64 := by rw [ediv, and63 _ ldiv]; omega
          have htab := tab_at ((n : Int) / 2 ^ (18 - 6 * k) % 64) (n / 2 ^ (18 - 6 * k) % 64) (by rw [ediv]; omega) (by omega)
          have c0 : (0 : Int) ≤ (n : Int) / 2 ^ (18 - 6 * k) % 64 := by omega
          have c1 : (n : Int) / 2 ^ (18 - 6 * k) % 64 < 64 := by omega
          simp only [Tx.tab] at htab
          obtain ⟨v2, w2, hc, hown2, hg2, _⟩ := append_new wr base u0 _ [Tx.sgn (n / 2 ^ (18 - 6 * k) % 64)] 1 #[.int .u8 (Tx.sgn (n / 2 ^ (18 - 6 * k) % 64)).toNat] rfl rfl hown (by simp [Tx.signs]; omega) (by have := hb.size; omega) (by omega)
          rw [List.append_assoc, ← Tx.signs_take n k (by omega)] at hown2
          have Hown2 := hid hown2
          have Hb2 := hid (hb.trans (Below.ofGrown hg2 hown.ge (by have := hb.size; omega)))
          clear hown2 hg2 hown hb ediv ldiv
          generalize (Tx.sgn (n / 2 ^ (18 - 6 * k) % 64)).toNat = q at *
          go_wp2_with (at_builtin; go_must (refine Lib.wpList_append_run _ rfl _ _ 48 48 rfl _ _ rfl rfl _ _ hc ?_))
          exact ⟨⟨k + 1, by omega, by go_num, Hown2.out, Hb2.out⟩, by simp [intOf]; omega⟩
        · obtain rfl : k = m + 1 := by omega
          have hbs := hb.size
          have Hown3 := hid hown
          have Hb := hid hb
          have hne : u0 = .slice none 0 0 → False := fun h => by
            rcases hown with ⟨_, h2⟩ | ⟨g', cap', h2, _⟩
            · have := congrArg List.length h2
              simp [Tx.signs] at this
            · rw [h] at h2; cases h2
          have hgr : Hid (Tx.grp g.data.toList = (Tx.signs n).take (m + 1) ++ List.replicate (3 - m) 61) := by
            show _ = _
            rw [Tx.grp, ← Hn.out, data_length, hm]
          have hll : (bs ++ (Tx.signs n).take (m + 1)).length ≤ 140737488355100 := by simp [Tx.signs]; omega
          have hm1 : m = 1 ∨ m = 2 ∨ m = 3 := by omega
          clear hb
          rcases hm1 with rfl | rfl | rfl
          · obtain ⟨v3, w3, hc3, hown3, hg3, _⟩ := append_str wr base u0 _ (ByteArray.extract ⟨#[61, 61]⟩ 0 2) hown (by have : (ByteArray.extract ⟨#[61, 61]⟩ 0 2).size = 2 := rfl; omega) (by omega) (fun h => (hne h).elim)
            have Hown4 := hid hown3
            have Hb4 := hid (Hb.out.trans (Below.ofGrown hg3 hown.ge (by omega)))
            clear hown3 hg3 hown
            go_wp2_with (at_builtin; go_must (refine Lib.wpList_append_run _ rfl _ _ 48 9 rfl _ _ rfl rfl _ _ hc3 ?_))
            go_ret
            refine ⟨_, rfl, ?_, Hb4.out⟩
            have := Hown4.out
            rwa [List.append_assoc, show (ByteArray.extract ⟨#[61, 61]⟩ 0 2).data.toList = List.replicate (3 - 1) 61 from by decide +kernel, ← hgr.out] at this
          · obtain ⟨v3, w3, hc3, hown3, hg3, _⟩ := append_str wr base u0 _ (ByteArray.extract ⟨#[61, 61]⟩ 0 1) hown (by have : (ByteArray.extract ⟨#[61, 61]⟩ 0 1).size = 1 := rfl; omega) (by omega) (fun h => (hne h).elim)
            have Hown4 := hid hown3
            have Hb4 := hid (Hb.out.trans (Below.ofGrown hg3 hown.ge (by omega)))
            clear hown3 hg3 hown
            go_wp2_with (at_builtin; go_must (refine Lib.wpList_append_run _ rfl _ _ 48 9 rfl _ _ rfl rfl _ _ hc3 ?_))
            go_ret
            refine ⟨_, rfl, ?_, Hb4.out⟩
            have := Hown4.out
            rwa [List.append_assoc, show (ByteArray.extract ⟨#[61, 61]⟩ 0 1).data.toList = List.replicate (3 - 2) 61 from by decide +kernel, ← hgr.out] at this
          · obtain ⟨v3, w3, hc3, hown3, hg3, _⟩ := append_str wr base u0 _ (ByteArray.extract ⟨#[61, 61]⟩ 0 0) hown (by have : (ByteArray.extract ⟨#[61, 61]⟩ 0 0).size = 0 := rfl; omega) (by omega) (fun h => (hne h).elim)
            have Hown4 := hid hown3
            have Hb4 := hid (Hb.out.trans (Below.ofGrown hg3 hown.ge (by omega)))
            clear hown3 hg3 hown
            go_wp2_with (at_builtin; go_must (refine Lib.wpList_append_run _ rfl _ _ 48 9 rfl _ _ rfl rfl _ _ hc3 ?_))
            go_ret
            refine ⟨_, rfl, ?_, Hb4.out⟩
            have := Hown4.out
            rwa [List.append_assoc, show (ByteArray.extract ⟨#[61, 61]⟩ 0 0).data.toList = List.replicate (3 - 3) 61 from by decide +kernel, ← hgr.out] at this
end Go.Proofs.YtcaephnicaepaaaDoor
