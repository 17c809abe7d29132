import Derived.Test.YthoekndjeclimaaGreatDoorCR1
import Derived.Lib.AppendZeros
namespace Go.Proofs.YthoekndjeclimaaGreatDoor
open Go.RowKit

theorem info5' : (Tryz.prog.info? 5).map (fun i => (i.zero, i.size, i.bytes)) = some (some (.int .u8 0), 1, 1) := by kernel_rfl
/-- bytes that lie in a row of the call's own -/
abbrev OwnB (w : World) (base : Nat) (v : Value) (bs : List UInt8) : Prop := Own w base v (bv bs)

theorem Own.shape {w : World} {base : Nat} {v : Value} {cs : List Value} (h : Own w base v cs) : ∃ a cap, v = .slice a cs.length cap := by
  rcases h with ⟨rfl, rfl⟩ | ⟨g, cap, rfl, _⟩
  · exact ⟨none, 0, rfl⟩
  · exact ⟨some ⟨g, 0, none⟩, cap, rfl⟩

/-- append of new bytes that lie in a block of their own ('append(out, x, y)') -/
theorem append_new (w : World) (base : Nat) (v : Value) (bs ns : List UInt8) (m : Nat) (C : Array Value) (hC : C = (bv ns).toArray) (hm : ns.length = m) (hown : OwnB w base v bs)
    (hlen : bs.length + m ≤ 140737488355328) (hbase : base ≤ w.heap.size) (hpos : 0 < m) :
    ∃ v' w', (Builtin.append_ #[65, 65] 65 #[v, .slice (some ⟨w.heap.size, 0, none⟩) m m]).run Tryz.prog (w.alloc (.cells C 5)) = .ok v' w' ∧ OwnB w' base v' (bs ++ ns) ∧
      w.grownBy w' v.ownBlock ∧ (v'.ownBlock = v.ownBlock ∨ v'.ownBlock = some (w.heap.size + 1)) := by
  subst hC
  obtain ⟨i0, hi, hz0, hz1, hz2⟩ := info_parts info5'
  have hsrc : Src Tryz.prog 1 65 (.slice (some ⟨w.heap.size, 0, none⟩) m m) m (bv ns) (w.alloc (.cells (bv ns).toArray 5)) :=
    Src.ofSlice _ Tryz.underlying65 ⟨w.heap.size, 0, none⟩ m m (bv ns) (by simp [hm]) (fun j u hj => by
      rw [Addr.add_mid, cell_of_row _ _ _ _ _ _ (heap_alloc_new w _), Nat.zero_add]; simpa using hj) (fun u hu => bv_mem hu)
  obtain ⟨v', w', h1, h2, h3, h4⟩ := run_append_O (P := Tryz.prog) (w.alloc (.cells (bv ns).toArray 5)) base 65 65 65 5 i0 (.int .u8 0) Tryz.underlying65 hi hz0 hz1 rfl v (bv bs) (hown.alloc _) _ m (bv ns) hsrc
    (by rw [bv_length, hz2]; omega) (by rw [bv_length, maxLen]; omega) (by rw [size_alloc]; omega) (fun _ => hpos)
  refine ⟨v', w', h1, by rw [OwnB, bv_append]; exact h2, ⟨h3.os, h3.tape, h3.output, by have := h3.size; rw [size_alloc] at this; omega, fun k hk hne => (h3.block k (by rw [size_alloc]; omega) hne).trans (Below.heap_alloc w _ k hk)⟩, by rw [size_alloc] at h4; exact h4⟩
/-- append of a string's bytes ('append(out, s...)') -/
theorem append_str (w : World) (base : Nat) (v : Value) (bs : List UInt8) (s : ByteArray) (hown : OwnB w base v bs)
    (hlen : bs.length + s.size ≤ 140737488355328) (hbase : base ≤ w.heap.size) (hpos : v = .slice none 0 0 → 0 < s.size) :
    ∃ v' w', (Builtin.append_ #[65, 9] 65 #[v, .string s]).run Tryz.prog w = .ok v' w' ∧ OwnB w' base v' (bs ++ s.data.toList) ∧
      w.grownBy w' v.ownBlock ∧ (v'.ownBlock = v.ownBlock ∨ v'.ownBlock = some w.heap.size) := by
  obtain ⟨i0, hi, hz0, hz1, hz2⟩ := info_parts info5'
  obtain ⟨v', w', h1, h2, h3, h4⟩ := run_append_O (P := Tryz.prog) w base 65 9 65 5 i0 (.int .u8 0) Tryz.underlying65 hi hz0 hz1 rfl v (bv bs) hown _ s.size (byteCells s) (Src.ofString w Tryz.underlying9 s)
    (by rw [bv_length, hz2]; omega) (by rw [bv_length, maxLen]; omega) hbase hpos
  exact ⟨v', w', h1, by rw [OwnB, bv_append]; exact h2, h3, h4⟩
theorem Below.ofGrown {w w' : World} {v : Value} {base : Nat} (h : w.grownBy w' v.ownBlock) (hv : ∀ k, v.ownBlock = some k → base ≤ k) (hb : base ≤ w.heap.size) : Below base w w' :=
  (Below.refl base w).grown h hb hv

/-- s + t -/
theorem add_sv (P : Program) (t : TypeId) (a b : List UInt8) (h : a.length + b.length ≤ 9223372036854775807) (w : World) : (binOp .add t (sv a) (sv b)).run P w = .ok (sv (a ++ b)) w := by
  rw [sv, sv, binOp_string_add, run_string_add_sum w _ _ (by rw [sv_size, sv_size]; exact h), ByteArray.mk_append_mk]
  rfl
/-- []byte(s) -/
theorem conv_bytes (w : World) (s : ByteArray) (hs : s.size ≤ maxLen) :
    ∃ v' w', (convert 9 65 (.string s)).run Tryz.prog w = .ok v' w' ∧ OwnB w' w.heap.size v' s.data.toList ∧ Below w.heap.size w w' := by
  refine ⟨_, _, Lib.run_convert_string_bytes (P := Tryz.prog) w 9 65 5 s Tryz.underlying9 Tryz.underlying65 Tryz.underlying5, .inr ⟨w.heap.size, _, by rw [bv_length, data_length], Nat.le_refl _, ?_, ?_, ?_, ?_, ?_⟩, ?_⟩
  · rw [bv_length, data_length]; exact grownCap_ge w s.size 0 _
  · exact grownCap_le_maxLen w s.size 0 _ hs
  · intro j u hj
    have hj' : j < s.size := by have := (List.getElem?_eq_some_iff.1 hj).1; rwa [bv_length, data_length] at this
    rw [Nat.zero_add, Lib.bytesWorld_cell w _ s j hj', ← hj]
    have hd : j < s.data.toList.length := by rw [data_length]; exact hj'
    simp only [bv, List.getElem?_map, List.getD_eq_getElem?_getD, List.getElem?_eq_getElem hd, Option.getD_some, Option.map_some]
  · intro j hj
    have hn := Lib.bytesWorld_at_new w 5 s
    have hsz : (Lib.bytesCells w 5 s).size = grownCap w s.size 0 5 := by
      have := grownCap_ge w s.size 0 5
      have e : s.data.size = s.size := rfl
      simp only [Lib.bytesCells, Array.size_append, Array.size_map, Array.size_replicate]
      omega
    refine ⟨?_, ?_⟩
    · rw [Nat.zero_add, cell_of_row _ _ _ _ _ _ hn, Array.getElem?_eq_getElem (by omega)]; rfl
    · simp only [World.frozen?, hn, Nat.zero_add]
      simp; omega
  · rw [Lib.bytesWorld_size]; omega
  · exact ⟨rfl, rfl, rfl, by rw [Lib.bytesWorld_size]; omega, fun k hk => Lib.bytesWorld_at_old w _ s k hk⟩
/-- string(b) of what is owned -/
theorem conv_own {w : World} {base : Nat} {v : Value} {bs : List UInt8} (h : OwnB w base v bs) (hpos : v ≠ .slice none 0 0) : (convert 65 9 v).run Tryz.prog w = .ok (sv bs) w := by
  rcases h with ⟨rfl, _⟩ | ⟨g, cap, rfl, _, _, _, h4, _⟩
  · exact absurd rfl hpos
  · exact run_conv_bytes (P := Tryz.prog) w 65 9 5 g 0 (bv bs).length cap bs (by rw [bv_length]) Tryz.underlying65 Tryz.underlying5 Tryz.underlying9 h4
end Go.Proofs.YthoekndjeclimaaGreatDoor

namespace Go.Proofs.YthoekndjeclimaaGreatDoor
open Go.RowKit

def sliceLen : Value → Nat
  | .slice _ n _ => n
  | _ => 0

set_option maxRecDepth 100000 in
set_option maxHeartbeats 400000 in
theorem filled_any (s : ByteArray) (hs : s.size ≤ 140737488355000) (w : World) :
    Calls Tryz.prog 76 #[.string s] w fun e w' => e = .returned (sv (s.data.toList ++ Sha.filling s.size)) ∧ Below w.heap.size w w' := by
  obtain ⟨v0, w0, hc0, hown0, hb0⟩ := conv_bytes w s (by rw [maxLen]; omega)
  obtain ⟨a0, cap0, rfl⟩ := hown0.shape
  have hb0s := hb0.size
  obtain ⟨v1, w1, hc1, hown1, hg1, _⟩ := append_new w0 w.heap.size _ s.data.toList [128] 1 #[.int .u8 128] rfl rfl hown0 (by rw [data_length]; omega) hb0s (by omega)
  have hb1 : Below w.heap.size w w1 := hb0.trans (Below.ofGrown hg1 hown0.ge hb0s)
  rw [bv_length, data_length] at hc0 hc1
  obtain ⟨z, hz⟩ : ∃ z, z = (119 - s.size % 64) % 64 := ⟨_, rfl⟩
  have Hz := hid hz
  have Hown1 := hid hown1
  have Hb1 := hid hb1
  clear hz hown0 hown1 hb0 hb1 hg1 hb0s
  generalize hn : s.size = n at *
  have hs' : (n : Int) ≤ 140737488355000 := by omega
  go_enter Tryz.func76, Tryz.ntmps76
  go_wp2_with (at_builtin; go_must (refine Lib.wpList_append_run _ rfl _ _ 65 65 rfl _ _ rfl rfl _ _ hc1 ?_))
  have hz64 : z < 64 := by have := Hz.out; omega
  have e1 : (bv (s.data.toList ++ [128])).length = n + 1 := by simp [hn]
  obtain ⟨a1, cap1, hv1⟩ := Hown1.out.shape
  rw [e1] at hv1
  subst hv1
  clear e1
  go_loopw [4] (fun v w' => ∃ (k : Nat) (a : Option Addr) (cap : Nat), v = .slice a (n + 1 + k) cap ∧ k ≤ z ∧ OwnB w' w.heap.size (.slice a (n + 1 + k) cap) (s.data.toList ++ 128 :: List.replicate k 0) ∧ Below w.heap.size w w') (fun v _ => n + 1 + z - sliceLen v)
  case atStart =>
    exact ⟨0, a1, cap1, rfl, by omega, Hown1.out, Hb1.out⟩
  case round =>
    obtain ⟨k, a, cap, rfl, hk, hown, hb⟩ := hrel
    have Hown := hid hown
    have Hb := hid hb
    have hbs := hb.size
    by_cases hlt : k < z
    · have g1 : (((n + 1 + k : Nat) : Int) % 64 != 56) = true := by have := Hz.out; simp; omega
      obtain ⟨v2, w2, hc2, hown2, hg2, _⟩ := append_new wr w.heap.size _ _ [0] 1 #[.int .u8 0] rfl rfl hown (by simp; omega) hbs (by omega)
      have e2 : (s.data.toList ++ 128 :: List.replicate k 0) ++ [0] = s.data.toList ++ 128 :: List.replicate (k + 1) 0 := by rw [List.replicate_succ']; simp
      rw [e2] at hown2
      have e3 : (bv (s.data.toList ++ 128 :: List.replicate (k + 1) 0)).length = n + 1 + (k + 1) := by simp [hn]; omega
      obtain ⟨a2, cap2, hv2⟩ := hown2.shape
      rw [e3] at hv2
      subst hv2
      clear e2 e3
      have Hown2 := hid hown2
      have Hb2 := hid (hb.trans (Below.ofGrown hg2 hown.ge hbs))
      clear hown hb hown2 hg2
      go_wp2_with (at_builtin; go_must (refine Lib.wpList_append_run _ rfl _ _ 65 65 rfl _ _ rfl rfl _ _ hc2 ?_))
      exact ⟨⟨k + 1, a2, cap2, rfl, by omega, Hown2.out, Hb2.out⟩, by simp [sliceLen]; omega⟩
    · obtain rfl : k = z := by omega
      have g1 : (((n + 1 + k : Nat) : Int) % 64 != 56) = false := by have := Hz.out; simp; omega
      clear hb
      have hcv : (convert 65 9 (.slice a (n + 1 + k) cap)).run Tryz.prog wr.drew = .ok (sv (s.data.toList ++ 128 :: List.replicate k 0)) wr.drew := conv_own hown.drew (by intro e; injection e; omega)
      have hw8 : IntKind.i64.wrap (8 * (n : Int)) = 8 * (n : Int) := wrap_small _ (by omega) (by omega)
      clear hown
      have hadd := add_sv Tryz.prog 9 (s.data.toList ++ 128 :: List.replicate k 0) (Sha.be (8 * n) 8) (by simp [Sha.be_length]; omega)
      go_wp2
      go_region_with (go_at_call 79; refine (big8 (8 * n) _ (by omega) _).mono ?_; rintro e w5 ⟨rfl, hw5⟩; go_must (have hcv5 := conv_own (Hown.out.drew.below hw5 (Nat.le_refl _)) (by intro e; injection e; omega)))
      all_goals go_wp2
      all_goals go_ret
      all_goals refine ⟨?_, Hb.out.drew.trans (hw5.mono hbs)⟩
      all_goals show Ending.returned (sv _) = _
      all_goals rw [Sha.filling, ← Hz.out]
end Go.Proofs.YthoekndjeclimaaGreatDoor
