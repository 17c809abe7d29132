import Derived.Test.YtacegaljoogfcaaDoorPkK3
namespace Go.Proofs.YtacegaljoogfcaaDoor
open Go.RowKit

theorem info5' : (Tryd.prog.info? 5).map (fun i => (i.zero, i.size, i.bytes)) = some (some (.int .u8 0), 1, 1) := by kernel_rfl
/-- bytes that lie in a row of the call's own -/
abbrev OwnB (w : World) (base : Nat) (v : Value) (bs : List UInt8) : Prop := Own w base v (bv bs)

theorem Own.shape {w : World} {base : Nat} {v : Value} {cs : List Value} (h : Own w base v cs) : ∃ a cap, v = .slice a cs.length cap := by
  rcases h with ⟨rfl, rfl⟩ | ⟨g, cap, rfl, _⟩
  · exact ⟨none, 0, rfl⟩
  · exact ⟨some ⟨g, 0, none⟩, cap, rfl⟩

/-- append of new bytes that lie in a block of their own ('append(out, x, y)') -/
theorem append_new (w : World) (base : Nat) (v : Value) (bs ns : List UInt8) (m : Nat) (C : Array Value) (hC : C = (bv ns).toArray) (hm : ns.length = m) (hown : OwnB w base v bs)
    (hlen : bs.length + m ≤ 140737488355328) (hbase : base ≤ w.heap.size) (hpos : 0 < m) :
    ∃ v' w', (Builtin.append_ #[39, 39] 39 #[v, .slice (some ⟨w.heap.size, 0, none⟩) m m]).run Tryd.prog (w.alloc (.cells C 5)) = .ok v' w' ∧ OwnB w' base v' (bs ++ ns) ∧
      w.grownBy w' v.ownBlock ∧ (v'.ownBlock = v.ownBlock ∨ v'.ownBlock = some (w.heap.size + 1)) := by
  subst hC
  obtain ⟨i0, hi, hz0, hz1, hz2⟩ := info_parts info5'
  have hsrc : Src Tryd.prog 1 39 (.slice (some ⟨w.heap.size, 0, none⟩) m m) m (bv ns) (w.alloc (.cells (bv ns).toArray 5)) :=
    Src.ofSlice _ Tryd.underlying39 ⟨w.heap.size, 0, none⟩ m m (bv ns) (by simp [hm]) (fun j u hj => by
      rw [Addr.add_mid, cell_of_row _ _ _ _ _ _ (heap_alloc_new w _), Nat.zero_add]; simpa using hj) (fun u hu => bv_mem hu)
  obtain ⟨v', w', h1, h2, h3, h4⟩ := run_append_O (P := Tryd.prog) (w.alloc (.cells (bv ns).toArray 5)) base 39 39 39 5 i0 (.int .u8 0) Tryd.underlying39 hi hz0 hz1 rfl v (bv bs) (hown.alloc _) _ m (bv ns) hsrc
    (by rw [bv_length, hz2]; omega) (by rw [bv_length, maxLen]; omega) (by rw [size_alloc]; omega) (fun _ => hpos)
  refine ⟨v', w', h1, by rw [OwnB, bv_append]; exact h2, ⟨h3.os, h3.tape, h3.output, by have := h3.size; rw [size_alloc] at this; omega, fun k hk hne => (h3.block k (by rw [size_alloc]; omega) hne).trans (Below.heap_alloc w _ k hk)⟩, by rw [size_alloc] at h4; exact h4⟩
/-- append of a string's bytes ('append(out, s...)') -/
theorem append_str (w : World) (base : Nat) (v : Value) (bs : List UInt8) (s : ByteArray) (hown : OwnB w base v bs)
    (hlen : bs.length + s.size ≤ 140737488355328) (hbase : base ≤ w.heap.size) (hpos : v = .slice none 0 0 → 0 < s.size) :
    ∃ v' w', (Builtin.append_ #[39, 9] 39 #[v, .string s]).run Tryd.prog w = .ok v' w' ∧ OwnB w' base v' (bs ++ s.data.toList) ∧
      w.grownBy w' v.ownBlock ∧ (v'.ownBlock = v.ownBlock ∨ v'.ownBlock = some w.heap.size) := by
  obtain ⟨i0, hi, hz0, hz1, hz2⟩ := info_parts info5'
  obtain ⟨v', w', h1, h2, h3, h4⟩ := run_append_O (P := Tryd.prog) w base 39 9 39 5 i0 (.int .u8 0) Tryd.underlying39 hi hz0 hz1 rfl v (bv bs) hown _ s.size (byteCells s) (Src.ofString w Tryd.underlying9 s)
    (by rw [bv_length, hz2]; omega) (by rw [bv_length, maxLen]; omega) hbase hpos
  exact ⟨v', w', h1, by rw [OwnB, bv_append]; exact h2, h3, h4⟩
theorem Below.ofGrown {w w' : World} {v : Value} {base : Nat} (h : w.grownBy w' v.ownBlock) (hv : ∀ k, v.ownBlock = some k → base ≤ k) (hb : base ≤ w.heap.size) : Below base w w' :=
  (Below.refl base w).grown h hb hv

/-- s + t -/
theorem add_sv (P : Program) (t : TypeId) (a b : List UInt8) (h : a.length + b.length ≤ 9223372036854775807) (w : World) : (binOp .add t (sv a) (sv b)).run P w = .ok (sv (a ++ b)) w := by
  rw [sv, sv, binOp_string_add, run_string_add_sum w _ _ (by rw [sv_size, sv_size]; exact h), ByteArray.mk_append_mk]
  rfl
/-- []byte(s) -/
theorem conv_bytes (w : World) (s : ByteArray) (hs : s.size ≤ maxLen) :
    ∃ v' w', (convert 9 39 (.string s)).run Tryd.prog w = .ok v' w' ∧ OwnB w' w.heap.size v' s.data.toList ∧ Below w.heap.size w w' := by
  refine ⟨_, _, Lib.run_convert_string_bytes (P := Tryd.prog) w 9 39 5 s Tryd.underlying9 Tryd.underlying39 Tryd.underlying5, .inr ⟨w.heap.size, _, by rw [bv_length, data_length], Nat.le_refl _, ?_, ?_, ?_, ?_, ?_⟩, ?_⟩
  · rw [bv_length, data_length]; exact grownCap_ge w s.size 0 _
  · exact grownCap_le_maxLen w s.size 0 _ hs
  · intro j u hj
    have hj' : j < s.size := by have := (List.getElem?_eq_some_iff.1 hj).1; rwa [bv_length, data_length] at this
    rw [Nat.zero_add, Lib.bytesWorld_cell w _ s j hj', ← hj]
    have hd : j < s.data.toList.length := by rw [data_length]; exact hj'
    simp only [bv, List.getElem?_map, List.getD_eq_getElem?_getD, List.getElem?_eq_getElem hd, Option.getD_some, Option.map_some]
  · intro j hj
    have hn := Lib.bytesWorld_at_new w 5 s
    have hsz : (Lib.bytesCells w 5 s).size = grownCap w s.size 0 5 := by
      have := grownCap_ge w s.size 0 5
      have e : s.data.size = s.size := rfl
      simp only [Lib.bytesCells, Array.size_append, Array.size_map, Array.size_replicate]
      omega
    refine ⟨?_, ?_⟩
    · rw [Nat.zero_add, cell_of_row _ _ _ _ _ _ hn, Array.getElem?_eq_getElem (by omega)]; rfl
    · simp only [World.frozen?, hn, Nat.zero_add]
      simp; omega
  · rw [Lib.bytesWorld_size]; omega
  · exact ⟨rfl, rfl, rfl, by rw [Lib.bytesWorld_size]; omega, fun k hk => Lib.bytesWorld_at_old w _ s k hk⟩
/-- string(b) of what is owned -/
theorem conv_own {w : World} {base : Nat} {v : Value} {bs : List UInt8} (h : OwnB w base v bs) (hpos : v ≠ .slice none 0 0) : (convert 39 9 v).run Tryd.prog w = .ok (sv bs) w := by
  rcases h with ⟨rfl, _⟩ | ⟨g, cap, rfl, _, _, _, h4, _⟩
  · exact absurd rfl hpos
  · exact run_conv_bytes (P := Tryd.prog) w 39 9 5 g 0 (bv bs).length cap bs (by rw [bv_length]) Tryd.underlying39 Tryd.underlying5 Tryd.underlying9 h4
end Go.Proofs.YtacegaljoogfcaaDoor
