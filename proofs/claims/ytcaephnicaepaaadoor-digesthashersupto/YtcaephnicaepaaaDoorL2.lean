import Derived.Test.YtcaephnicaepaaaDoorL1
import Derived.Laws.OwnMore
namespace Go.Proofs.YtcaephnicaepaaaDoor
open Go.RowKit

/-- make([]byte, c) -/
theorem make_zeros (w : World) (c : Nat) (hc : c ≤ 1000) :
    ∃ w', (Instr.makeSlice 48 (.int .i64 (c : Int)) (.int .i64 (c : Int))).run Tryd.prog w = .ok (.slice (some ⟨w.heap.size, 0, none⟩) c c) w' ∧
      (convert 48 9 (.slice (some ⟨w.heap.size, 0, none⟩) c c)).run Tryd.prog w' = .ok (sv (List.replicate c 0)) w' ∧ Below w.heap.size w w' := by
  obtain ⟨i0, hi, hz0, hz1, hz2⟩ := info_parts info5'
  have h := run_make (P := Tryd.prog) w 48 5 i0 (.int .u8 0) Tryd.underlying48 hi hz0 .i64 .i64 (c : Int) (c : Int) (by omega) (by omega) (by rw [hz2]; omega) (by omega)
  rw [Int.toNat_natCast, hz1, Nat.mul_one] at h
  refine ⟨_, h, ?_, (Below.refl _ _).alloc (Nat.le_refl _) _⟩
  refine run_conv_bytes (P := Tryd.prog) _ 48 9 5 w.heap.size 0 c c (List.replicate c 0) (by simp) Tryd.underlying48 Tryd.underlying5 Tryd.underlying9 ?_
  intro j v hv
  rw [cell_of_row _ _ _ _ _ _ (heap_alloc_new w _), Nat.zero_add, ← Array.getElem?_toList]
  rw [show (madeCells (Value.int IntKind.u8 0).cells c).toList = List.replicate c (.int .u8 0) from toList_madeCells_one _ _]
  simpa [bv] using hv

def thirty (l : List UInt8) : List UInt8 := l.take 32 ++ List.replicate (32 - l.length) 0
theorem thirty_length (l : List UInt8) : (thirty l).length = 32 := by simp [thirty]; omega
set_option maxRecDepth 100000 in
set_option maxHeartbeats 400000 in
theorem thirty_any (s : ByteArray) (hs : s.size ≤ maxLen) (w : World) :
    Calls Tryd.prog 28 #[.string s] w fun e w' => e = .returned (sv (thirty s.data.toList)) ∧ Below w.heap.size w w' := by
  unfold maxLen at hs
  by_cases h : 32 < s.size
  · have h' : (32 : Int) < (s.size : Int) := by omega
    have e := hid (show sv (thirty s.data.toList) = .string (s.extract 0 32) by
      rw [sv_eta (s.extract 0 32), take_data, thirty, data_length, show 32 - s.size = 0 from by omega]; simp)
    go_enter Tryd.func28, Tryd.ntmps28
    go_wp2
    go_ret
    exact ⟨by rw [e.out]; rfl, Below.refl _ _⟩
  · have h' : ¬ (32 : Int) < (s.size : Int) := by omega
    obtain ⟨w1, hmk, hcv, hb⟩ := make_zeros w (32 - s.size) (by omega)
    rw [show ((32 - s.size : Nat) : Int) = 32 - (s.size : Int) from by omega] at hmk
    have e := hid (show s.data.toList ++ List.replicate (32 - s.size) 0 = thirty s.data.toList by rw [thirty, data_length, List.take_of_length_le (by rw [data_length]; omega)])
    have hadd := add_sv Tryd.prog 9 s.data.toList (List.replicate (32 - s.size) 0) (by rw [data_length]; simp; omega)
    rw [← sv_eta] at hadd
    have Hb := hid hb
    clear hb
    go_enter Tryd.func28, Tryd.ntmps28
    go_wp2
    go_ret
    refine ⟨?_, Hb.out⟩
    show Ending.returned (sv _) = _
    rw [e.out]
end Go.Proofs.YtcaephnicaepaaaDoor
