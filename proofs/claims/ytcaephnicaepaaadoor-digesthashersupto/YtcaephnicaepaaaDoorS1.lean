import Derived.Test.YtcaephnicaepaaaDoorL3
namespace Go.Proofs.YtcaephnicaepaaaDoor
open Go.RowKit

/-- a slice of texts, wherever it lies -/
def Slc (w : World) (v : Value) (ps : List (List UInt8)) : Prop :=
  ∃ a cap, v = .slice a ps.length cap ∧ ∀ j p, ps[j]? = some p → ∃ x : Addr, a = some x ∧ x.block < w.heap.size ∧ w.cell? (x.add j) = some (sv p)
theorem add_block (x : Addr) (j : Nat) : (x.add j).block = x.block := by unfold Addr.add; split <;> rfl
theorem Slc.below {w w' : World} {v : Value} {ps : List (List UInt8)} {B : Nat} (h : Slc w v ps) (hb : Below B w w') (hB : w.heap.size ≤ B) : Slc w' v ps := by
  obtain ⟨a, cap, rfl, h⟩ := h
  refine ⟨a, cap, rfl, fun j p hp => ?_⟩
  obtain ⟨x, rfl, hx, hc⟩ := h j p hp
  exact ⟨x, rfl, Nat.lt_of_lt_of_le hx hb.size, (hb.cell (p := x.add j) (by rw [add_block]; omega)).trans hc⟩
theorem Slc.of_texts {w : World} {g o cap : Nat} {ps : List (List UInt8)} (hg : g < w.heap.size) (h : Texts w g o ps) : Slc w (.slice (some ⟨g, o, none⟩) ps.length cap) ps :=
  ⟨_, cap, rfl, fun j p hp => ⟨_, rfl, hg, by rw [Addr.add_mid]; exact h j p hp⟩⟩

set_option maxRecDepth 100000 in
set_option maxHeartbeats 400000 in
theorem joined_any (v : Value) (ps : List (List UInt8)) (hlen : total ps ≤ 2305843009213693800) (hps : ps.length ≤ maxLen) (w : World) (hp : Slc w v ps) :
    Calls Tryd.prog 30 #[v] w fun e w' => e = .returned (sv ps.flatten) ∧ Below w.heap.size w w' := by
  unfold maxLen at hps
  obtain ⟨a, cap, rfl, hp⟩ := hp
  have Hp := hid hp
  clear hp
  go_enter Tryd.func30, Tryd.ntmps30
  go_wp2
  go_loopw [3, 4] (fun s i w' => ∃ k : Nat, k ≤ ps.length ∧ i = .int .i64 k ∧ s = sv (ps.take k).flatten ∧ Hid (Below w.heap.size w w')) (fun _ i _ => ps.length - (intOf i).toNat)
  case atStart => exact ⟨0, by omega, rfl, rfl, Below.refl _ _⟩
  case round =>
    obtain ⟨k, hk, rfl, rfl, hbl⟩ := hrel
    by_cases hlt : k < ps.length
    · have hlt' : (k : Int) < (ps.length : Int) := by omega
      obtain ⟨x, hx, hxb, hc⟩ := Hp.out k _ (List.getElem?_eq_getElem hlt)
      subst hx
      have cp : wr.cell? (x.add k) = some (sv ps[k]) := (hbl.out.cell (p := x.add k) (by rw [add_block]; exact hxb)).trans hc
      have hpl := total_take ps k hlt
      have hadd := add_sv Tryd.prog 9 (ps.take k).flatten ps[k] (by omega)
      rw [← take_flatten ps k hlt] at hadd
      clear hc
      generalize ps[k] = p at *
      generalize hA : (ps.take k).flatten = A at *
      generalize hA' : (ps.take (k + 1)).flatten = A' at *
      have HA' := hid hA'
      clear hA hA'
      go_wp2
      exact ⟨⟨k + 1, by omega, by go_num, by rw [HA'.out], hbl⟩, by simp [intOf]; omega⟩
    · obtain rfl : k = ps.length := by omega
      go_wp2
      go_ret
      refine ⟨?_, hbl.out⟩
      rw [List.take_length]; rfl

theorem emptyData : (ByteArray.mk #[]).data.toList = ([] : List UInt8) := rfl
theorem emptySize : (ByteArray.mk #[]).size = 0 := rfl
theorem rsum_nil {D : List UInt8} (hD : Hid (Sha.sha [] = D)) (w : World) :
    Calls Tryd.prog 29 #[.string ⟨#[]⟩] w fun e w' => e = .returned (sv D) ∧ Below w.heap.size w w' := by
  have h := rsum_any ⟨#[]⟩ (by rw [emptySize]; omega) w
  rw [emptyData, hD.out] at h
  exact h
set_option maxRecDepth 100000 in
set_option maxHeartbeats 400000 in
theorem rempty_at {D : List UInt8} (hD : Hid (Sha.sha [] = D)) (w : World) :
    Calls Tryd.prog 34 #[] w fun e w' => e = .returned (sv D) ∧ Below w.heap.size w w' := by
  go_enter Tryd.func34, Tryd.ntmps34
  go_wp2_with (go_at_call 29; fail)
  refine (rsum_nil hD _).mono ?_
  rintro e w1 ⟨rfl, hw1⟩
  go_wp2
  go_ret
  exact ⟨rfl, hw1⟩
theorem zero_size (l : ByteArray) : ({ data := #[0] } ++ l : ByteArray).size = 1 + l.size := by
  rw [app_size]; rfl
theorem zero_data (l : ByteArray) : ({ data := #[0] } ++ l : ByteArray).data.toList = 0 :: l.data.toList := by
  rw [app_data]; rfl
set_option maxRecDepth 100000 in
set_option maxHeartbeats 400000 in
theorem rleaf_any (s : ByteArray) (hs : s.size ≤ 140737488354000) (w : World) :
    Calls Tryd.prog 32 #[.string s] w fun e w' => e = .returned (sv (Sha.sha (0 :: s.data.toList))) ∧ Below w.heap.size w w' := by
  obtain ⟨q, hq⟩ : ∃ q, q = ({ data := #[0] } ++ s : ByteArray) := ⟨_, rfl⟩
  have hqs := zero_size s
  have hqd := zero_data s
  rw [← hq] at hqs hqd
  obtain ⟨D, hD⟩ : ∃ D, Sha.sha (0 :: s.data.toList) = D := ⟨_, rfl⟩
  rw [hD]
  rw [← hqd] at hD
  have HD := hid hD
  clear hD hqd
  go_enter Tryd.func32, Tryd.ntmps32
  go_wp2_with (go_at_call 29; fail)
  rw [← hq]
  clear hq
  refine (rsum_at q D (by omega) HD _).mono ?_
  rintro e w1 ⟨rfl, hw1⟩
  go_wp2
  go_ret
  exact ⟨rfl, hw1⟩
end Go.Proofs.YtcaephnicaepaaaDoor
