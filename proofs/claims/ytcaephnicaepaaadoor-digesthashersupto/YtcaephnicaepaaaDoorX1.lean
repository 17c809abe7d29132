import Derived.Test.YtcaephnicaepaaaDoorR3
import Derived.Test.YtcaephnicaepaaaDoorM4
import Derived.BigRegion
namespace Go.Proofs.YtcaephnicaepaaaDoor
open Go.RowKit

/-- make([]byte, 0, c) -/
theorem make_B (w : World) (c : Nat) (hc : c ≤ 281474976710656) :
    ∃ w', (Instr.makeSlice 48 (.int .i64 0) (.int .i64 (c : Int))).run Tryd.prog w = .ok (.slice (some ⟨w.heap.size, 0, none⟩) 0 c) w' ∧ OwnB w' w.heap.size (.slice (some ⟨w.heap.size, 0, none⟩) 0 c) [] ∧ Below w.heap.size w w' := by
  obtain ⟨i0, hi, hz0, hz1, hz2⟩ := info_parts info5'
  obtain ⟨w', h1, h2, h3⟩ := run_make_own (P := Tryd.prog) w w.heap.size 48 5 i0 (.int .u8 0) 1 Tryd.underlying48 hi hz0 hz1 .i64 .i64 c (by rw [hz2]; omega) (by rw [maxLen]; omega) (Nat.le_refl _)
  refine ⟨w', h1, ?_, Below.ofGrown (v := .slice none 0 0) h3 (fun k hk => by cases hk) (Nat.le_refl _)⟩
  rcases h2.2 with ⟨h, _⟩ | ⟨g, cap, cur, hv, hg, hh, _, hm, hs, _⟩
  · cases h
  · injection hv with e1 e2 e3
    injection e1 with e1
    injection e1 with e1
    subst e1 e3
    exact .inr ⟨_, _, rfl, Nat.le_refl _, by simp [bv], hm, fun j v hj => by simp [bv] at hj, there_of_row hh 0 _ (by rw [hs]; omega), lt_of_heap hh⟩

theorem Own.shapeS {w : World} {base : Nat} {v : Value} {cs : List Value} (h : Own w base v cs) (hp : 0 < cs.length) (n : Nat) (hn : cs.length = n) : ∃ a cap, v = .slice (some a) n cap := by
  subst hn
  rcases h with ⟨rfl, rfl⟩ | ⟨g, cap, rfl, _⟩
  · simp at hp
  · exact ⟨⟨g, 0, none⟩, cap, rfl⟩
/-- an index into a constant text -/
theorem index_tab (tab : List UInt8) (i : Int) (k : Nat) (hi : i = (k : Int)) (h : k < tab.length) (x : Nat) (hx : (tab.getD k 0).toNat = x) (kd : IntKind) (w : World) :
    (Instr.index 9 (.string ⟨tab.toArray⟩) (.int kd i)).run Tryd.prog w = .ok (.int .u8 (x : Int)) w := by
  subst hi hx
  rw [run_index_string w 9 _ kd (k : Int) Tryd.underlying9]
  have hs : k < (ByteArray.mk tab.toArray).size := by rw [sv_size]; exact h
  have e : (ByteArray.mk tab.toArray)[k] = tab[k] := rfl
  rw [dif_pos ⟨by omega, by omega⟩]
  simp [h, e]
theorem index_any (s : ByteArray) (i : Int) (k : Nat) (hi : i = (k : Int)) (h : k < s.size) :
    ∃ x : Nat, Hid (x = (s.data.toList.getD k 0).toNat) ∧ x < 256 ∧ (∀ w, (Instr.index 9 (.string s) (.int .i64 i)).run Tryd.prog w = .ok (.int .u8 (x : Int)) w) ∧ ∀ (h : k < s.size), (s[k]'h).toNat = x := by
  have e : (s.data.toList.getD k 0).toNat = (s[k]'h).toNat := by
    rw [List.getD_eq_getElem?_getD, List.getElem?_eq_getElem (by rw [data_length]; exact h)]; rfl
  refine ⟨_, rfl, UInt8.toNat_lt _, fun w => ?_, fun _ => e.symm⟩
  subst hi
  rw [run_index_string w 9 s .i64 (k : Int) Tryd.underlying9, e]
  simp [h]

set_option maxRecDepth 100000 in
set_option maxHeartbeats 1000000 in
theorem hex_any (s : ByteArray) (hs : s.size ≤ 70368744177664) (w : World) :
    Calls Tryd.prog 10 #[.string s] w fun e w' => e = .returned (sv (Tx.hex s.data.toList)) ∧ Below w.heap.size w w' := by
  obtain ⟨w0, hmk, hown0, hb0⟩ := make_B w (2 * s.size) (by omega)
  have e2 : ((2 * s.size : Nat) : Int) = 2 * (s.size : Int) := by omega
  rw [e2] at hmk
  have Hown0 := hid hown0
  have Hb0 := hid hb0
  clear hown0 hb0 e2
  have hs' : (s.size : Int) ≤ 70368744177664 := by omega
  go_enter Tryd.func10, Tryd.ntmps10
  go_wp2
  go_loopw [3, 11] (fun v i w' => ∃ (k : Nat) (a : Addr) (cap : Nat), k ≤ s.size ∧ i = .int .i64 k ∧ v = .slice (some a) (2 * k) cap ∧ OwnB w' w.heap.size (.slice (some a) (2 * k) cap) (Tx.hex (s.data.toList.take k)) ∧ Below w.heap.size w w') (fun _ i _ => s.size - (intOf i).toNat)
  case atStart => exact ⟨0, _, _, by omega, rfl, rfl, Hown0.out, Hb0.out⟩
  case round =>
    obtain ⟨k, a, cap, hk, rfl, rfl, hown, hb⟩ := hrel
    by_cases hlt : k < s.size
    · have hlt' : (k : Int) < (s.size : Int) := by omega
      obtain ⟨x, ex, lx, ix, jx⟩ := index_any s (k : Int) k rfl hlt
      have hd : k < s.data.toList.length := by rw [data_length]; exact hlt
      have it1 := index_tab Tx.hexTab ((x : Int) / 16) (x / 16) (by omega) (by show _ < 16; omega) (Tx.hexSign (x / 16)).toNat (by rw [Tx.hexTab_at _ (by omega)]) .u8
      have it2 := index_tab Tx.hexTab ((x : Int) % 16) (x % 16) (by omega) (by show _ < 16; omega) (Tx.hexSign (x % 16)).toNat (by rw [Tx.hexTab_at _ (by omega)]) .u8
      have hand : bits .and .u8 (x : Int) 15 = (x : Int) % 16 := by
        rw [show (15 : Int) = ((15 : Nat) : Int) from rfl, u8_and_nat _ _ lx (by omega), nat_mask4]; omega
      obtain ⟨v2, w2, hc, hown2, hg2, _⟩ := append_new wr.drew w.heap.size _ _ [Tx.hexSign (x / 16), Tx.hexSign (x % 16)] 2 #[.int .u8 (Tx.hexSign (x / 16)).toNat, .int .u8 (Tx.hexSign (x % 16)).toNat] rfl rfl hown.drew (by rw [Tx.hex_length, List.length_take, data_length]; omega) hb.size (by omega)
      rw [ex.out, ← Tx.hex_take s.data.toList k hd] at hown2
      have hl2 : (bv (Tx.hex (s.data.toList.take (k + 1)))).length = 2 * (k + 1) := by rw [bv_length, Tx.hex_length, List.length_take, data_length]; omega
      obtain ⟨a2, cap2, rfl⟩ := hown2.shapeS (by omega) _ hl2
      simp only [Tx.hexTab] at it1 it2
      have Hown2 := hid hown2
      have Hb2 := hid (hb.drew.trans (Below.ofGrown hg2 hown.ge hb.size))
      clear hown2 hl2 hg2 hown hb
      go_wp2
      go_region_held3 (fun _ => True) (trivial) ((refine Lib.wp_append_run _ _ _ 48 48 (by rfl) _ _ (by rfl) (by rfl) _ _ hc ?_))
      all_goals go_wp2
      all_goals first | exact ⟨⟨k + 1, a2, cap2, by omega, by go_num, rfl, Hown2.out, Hb2.out⟩, by simp [intOf]; omega⟩ | (refine ⟨?_, by simp [intOf]; omega⟩; (repeat apply Exists.intro); exact ⟨⟨k + 1, a2, cap2, by omega, by go_num, rfl, Hown2.out, Hb2.out⟩, rfl⟩)
    · obtain rfl : k = s.size := by omega
      have hcv := conv_own hown (by intro h; injection h with h; cases h)
      rw [List.take_of_length_le (by rw [data_length]; omega)] at hcv
      have Hb := hid hb
      clear hown hb
      go_wp2
      go_ret
      exact ⟨rfl, Hb.out⟩
end Go.Proofs.YtcaephnicaepaaaDoor
