import Derived.Test.YtcaephnicaepaaaDoorC2
import Derived.Test.YtcaephnicaepaaaDoorM7
namespace Go.Proofs.YtcaephnicaepaaaDoor
open Go.RowKit

def byteOf (z : Int) : UInt8 := UInt8.ofNat (z % 256).toNat
theorem byteOf_wrap (z : Int) : IntKind.u8.wrap z = ((byteOf z).toNat : Int) := by
  rw [IntKind.wrap_u8']; unfold byteOf; simp; omega
theorem Own.set {w : World} {base g cap : Nat} {cs : List Value} (h : Own w base (.slice (some ⟨g, 0, none⟩) cs.length cap) cs) (k : Nat) (hk : k < cs.length) (x : Value) :
    Own (w.setCell ⟨g, k, none⟩ x) base (.slice (some ⟨g, 0, none⟩) (cs.set k x).length cap) (cs.set k x) := by
  rcases h with ⟨h, _⟩ | ⟨g', cap', h, h1, h2, h3, h4, h5, h6⟩
  · cases h
  · injection h with e1 e2 e3
    injection e1 with e1
    injection e1 with e1
    subst e1 e3
    refine .inr ⟨g, cap, rfl, h1, by rw [List.length_set]; exact h2, h3, fun j v hv => ?_, fun j hj => ?_, by simpa [World.setCell] using h6⟩
    · rw [Nat.zero_add]
      rw [List.getElem?_set] at hv
      split at hv
      · rename_i e
        subst e
        cases hv
        have := (h5 k (by omega)).1
        rw [Nat.zero_add] at this
        exact World.cell?_setCell_same' _ _ _ this
      · rename_i e
        have := h4 j v hv
        rw [Nat.zero_add] at this
        exact (World.cell?_setCell_other _ _ _ _ (by intro h; injection h; omega)).trans this
    · have := h5 j hj
      rw [Nat.zero_add] at this ⊢
      refine ⟨?_, by rw [World.frozen?_setCell]; exact this.2⟩
      by_cases e : j = k
      · subst e
        rw [World.cell?_setCell_same' _ _ _ this.1]; rfl
      · rw [World.cell?_setCell_other _ _ _ _ (by intro h; injection h; omega)]
        exact this.1
theorem Own.cell {w : World} {base g cap n : Nat} {cs : List Value} (h : Own w base (.slice (some ⟨g, 0, none⟩) n cap) cs) {k : Nat} {x : Value} (hk : cs[k]? = some x) : w.cell? ⟨g, k, none⟩ = some x ∧ w.frozen? ⟨g, k, none⟩ = false := by
  rcases h with ⟨h, _⟩ | ⟨g', cap', h, h1, h2, h3, h4, h5, h6⟩
  · cases h
  · injection h with e1 e2 e3
    injection e1 with e1
    injection e1 with e1
    subst e1 e3
    have a := h4 k x hk
    have b := (h5 k (by have := (List.getElem?_eq_some_iff.1 hk).1; omega)).2
    rw [Nat.zero_add] at a b
    exact ⟨a, b⟩
theorem bv_set' (l : List UInt8) (k : Nat) (x : UInt8) : (bv l).set k (.int .u8 (x.toNat : Int)) = bv (l.set k x) := by simp [bv, List.map_set]

set_option maxRecDepth 100000 in
set_option maxHeartbeats 400000 in
theorem spoilt_any (s : ByteArray) (a b : Int) (hs : s.size ≤ 1000000000) (ha1 : -9223372036854775808 ≤ a) (ha2 : a ≤ 9223372036854775807) (w : World) :
    Calls Tryd.prog 14 #[.string s, .int .i64 a, .int .i64 b] w fun e w' => ∃ r : ByteArray, e = .returned (.string r) ∧ r.size = s.size ∧ Below w.heap.size w w' := by
  by_cases h0 : s.size = 0
  · have y : s.toList.isEmpty = true := by
      have e : s.data.toList.length = 0 := by rw [data_length]; exact h0
      rw [ByteArray.toList_eq, List.length_eq_zero_iff.1 e]; rfl
    go_enter Tryd.func14, Tryd.ntmps14
    go_wp2
    go_ret
    exact ⟨s, rfl, rfl, Below.refl _ _⟩
  · have y : s.toList.isEmpty = false := by
      rw [ByteArray.toList_eq]
      apply Bool.eq_false_iff.2
      intro h
      have := congrArg List.length (List.isEmpty_iff.1 h)
      rw [data_length] at this
      exact h0 (by simpa using this)
    obtain ⟨v1, w1, hcv, hown, hb⟩ := conv_bytes w s (by unfold maxLen; omega)
    obtain ⟨r, hr⟩ : ∃ r : Nat, Hid (pk a (s.size : Int) = (r : Int)) := ⟨(pk a (s.size : Int)).toNat, by have := pk_nonneg a (s.size : Int) (by omega); unfold Hid; omega⟩
    have hr2 : (r : Int) < (s.size : Int) := by rw [← hr.out]; exact pk_lt _ _ (by omega)
    have hr3 : r < s.size := by omega
    rcases hown with ⟨rfl, h⟩ | ⟨g, cap, rfl, hg1, hg2, hg3, hg4, hg5, hg6⟩
    · have := congrArg List.length h
      rw [bv_length, data_length] at this
      exact (h0 this).elim
    · have hown : Own w1 w.heap.size (.slice (some ⟨g, 0, none⟩) (bv s.data.toList).length cap) (bv s.data.toList) := .inr ⟨g, cap, rfl, hg1, hg2, hg3, hg4, hg5, hg6⟩
      clear hg2 hg3 hg4 hg5 hg6
      have hbl : (bv s.data.toList).length = s.size := by rw [bv_length, data_length]
      obtain ⟨c1, c2⟩ := hown.cell (List.getElem?_eq_getElem (show r < (bv s.data.toList).length by omega))
      have hown2 := hown.set r (by omega) (.int .u8 ((byteOf b).toNat : Int))
      rw [bv_set'] at hown2
      have hcv2 := conv_own hown2 (fun h => by cases h)
      rw [bv_length, List.length_set, data_length] at hcv2
      rw [hbl] at hcv
      have hw := byteOf_wrap b
      have hb2 := hid (hb.setCell (p := ⟨g, r, none⟩) hg1 (.int .u8 ((byteOf b).toNat : Int)))
      have hsz := hid (show (ByteArray.mk (s.data.toList.set r (byteOf b)).toArray).size = s.size by rw [sv_size, List.length_set, data_length])
      clear hown hown2 hb
      go_enter Tryd.func14, Tryd.ntmps14
      go_wp2_with (go_at_call 15; fail)
      refine (pick_at hr ha1 ha2 (by omega) (by omega) _).mono ?_
      rintro e w' ⟨rfl, hw'⟩
      rw [hw']
      clear hw' w'
      go_wp2
      go_ret
      exact ⟨_, rfl, hsz.out, hb2.out⟩
end Go.Proofs.YtcaephnicaepaaaDoor
