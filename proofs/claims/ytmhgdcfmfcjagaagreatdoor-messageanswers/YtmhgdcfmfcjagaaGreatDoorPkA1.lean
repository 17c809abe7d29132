import Derived.Test.YtmhgdcfmfcjagaaGreatDoorProg
import Derived.WalkKit
import Derived.WalkSpells
import Derived.WalkLawsBesides
import Derived.Deep.RegionHeld3
import Derived.Deep.QuietTactic
import Derived.BigQuiet
import Derived.Deep.MidRow
import Derived.Deep.Light
import Derived.Lib.BufferWrite
import Derived.Lib.SlBuf
import Derived.Deep.AppendSrc
import Derived.Lib.ConvBytes
import Derived.BigRegion
import Derived.Laws.OwnMore
import Derived.Lib.AppendZeros
import Derived.Laws.BitsLemmas
import Derived.Maps.AppendAt
import Derived.Deep.AppendLies
namespace Go.Proofs.YtmhgdcfmfcjagaaGreatDoor
open Go.RowKit
def bv (l : List UInt8) : List Value := l.map fun b => .int .u8 (b.toNat : Int)
theorem Below.setRow {B : Nat} {a w : World} (h : Below B a w) {g : Nat} (hg : B ≤ g) (cs : Array Value) : Below B a (w.setRow g cs) :=
  ⟨h.os, h.tape, h.output, by rw [setRow_size]; exact h.size, fun k hk => (setRow_other w g k cs (by omega)).trans (h.block k hk)⟩
theorem bv_one (l : List UInt8) : (bv l).toArray.all (·.oneCell') = true := by
  refine all_oneCell_toArray fun v hv => ?_
  simp only [bv, List.mem_map] at hv
  obtain ⟨n, _, rfl⟩ := hv
  rfl
theorem heap_alloc_at (w : World) (o : Obj) (n : Nat) (h : w.heap.size = n) : (w.alloc o).heap[n]? = some o := by
  subst h; exact heap_alloc_new w o
theorem size_alloc (w : World) (o : Obj) : (w.alloc o).heap.size = w.heap.size + 1 := by
  show (w.heap.push o).size = _; simp
theorem lt_of_heap {w : World} {b : Nat} {o : Obj} (h : w.heap[b]? = some o) : b < w.heap.size := (Array.getElem?_eq_some_iff.1 h).1
theorem data_length (r : ByteArray) : r.data.toList.length = r.size := by rw [Array.length_toList]; rfl
def sv (l : List UInt8) : Value := .string ⟨l.toArray⟩
theorem bv_mem {l : List UInt8} {v : Value} (h : v ∈ bv l) : v.oneCell' = true := by
  simp only [bv, List.mem_map] at h
  obtain ⟨n, _, rfl⟩ := h
  rfl
@[simp] theorem bv_length (l : List UInt8) : (bv l).length = l.length := by simp [bv]
theorem bv_append (a b : List UInt8) : bv (a ++ b) = bv a ++ bv b := by simp [bv]
theorem rangeAt_of_list {w : World} {b : Nat} {L : List Value} {t : TypeId} {fr : Nat × Nat} (hb : w.heap[b]? = some (.cells L.toArray t fr)) {o : Nat} {l : List Value} (h : ∀ j v, l[j]? = some v → L[o + j]? = some v) : w.rangeAt b o l := fun j v hv => by
  rw [cell_of_row w b (o + j) _ t fr hb]
  simpa using h j v hv
structure But (b : Nat) (w w' : World) : Prop where
  os : w'.os = w.os
  tape : w'.tape = w.tape
  output : w'.output = w.output
  size : w.heap.size ≤ w'.heap.size
  block : ∀ k, k < w.heap.size → k ≠ b → w'.heap[k]? = w.heap[k]?
theorem But.refl (b : Nat) (w : World) : But b w w := ⟨rfl, rfl, rfl, Nat.le_refl _, fun _ _ _ => rfl⟩
theorem But.trans {b : Nat} {w w1 w2 : World} (h : But b w w1) (k : But b w1 w2) : But b w w2 :=
  ⟨k.os.trans h.os, k.tape.trans h.tape, k.output.trans h.output, Nat.le_trans h.size k.size, fun i hi hb => (k.block i (Nat.lt_of_lt_of_le hi h.size) hb).trans (h.block i hi hb)⟩
theorem But.below {b B : Nat} {w w' : World} (h : But b w w') (hB : B ≤ b) (hB' : B ≤ w.heap.size) : Below B w w' :=
  ⟨h.os, h.tape, h.output, h.size, fun k hk => h.block k (by omega) (by omega)⟩
theorem But.ofBelow {b : Nat} {w w' : World} (h : Below w.heap.size w w') : But b w w' := ⟨h.os, h.tape, h.output, h.size, fun k hk _ => h.block k hk⟩
theorem But.setRow {b : Nat} {w w' : World} (h : But b w w') (cs : Array Value) : But b w (w'.setRow b cs) :=
  ⟨h.os, h.tape, h.output, by rw [setRow_size]; exact h.size, fun k hk hb => (setRow_other w' b k cs hb).trans (h.block k hk hb)⟩
theorem But.drew {b : Nat} {w w' : World} (h : But b w w') : But b w w'.drew := ⟨h.os, h.tape, h.output, h.size, h.block⟩
theorem But.drewN {b : Nat} {w w' : World} (h : But b w w') (n : Nat) : But b w (w'.drewN n) := ⟨h.os, h.tape, h.output, h.size, h.block⟩
theorem run_conv_bytes {P : Program} (w : World) (src dst e : TypeId) (g o len cap : Nat) (bs : List UInt8) (hl : bs.length = len)
    (hs : P.underlying src = some (.slice e)) (he : P.underlying e = some (.int .u8)) (hd : P.underlying dst = some .string)
    (hc : w.rangeAt g o (bv bs)) : (convert src dst (.slice (some ⟨g, o, none⟩) len cap)).run P w = .ok (sv bs) w := by
  have hb : (bv bs) = (bs.map fun b => (b.toNat : Int)).map (Value.int .u8) := by simp [bv]
  have hlc : (loadCells ⟨g, o, none⟩ len).run P w = .ok ((bs.map fun b => (b.toNat : Int)).map (Value.int .u8)).toArray w := by
    rw [← hb, ← hl, ← bv_length bs]
    exact run_loadCells_list (P := P) w ⟨g, o, none⟩ (bv bs) (fun j v hv => by rw [Addr.add_mid]; exact hc j v hv)
  rw [run_convert_bytes_string w src dst e _ len cap hs he hd, run_bytesToString w _ len cap _ hlc]
  congr 1
  have key : ∀ (l : List UInt8) (r : ByteArray), (l.map fun b => (b.toNat : Int)).foldl (fun r n => r.push (UInt8.ofNat n.toNat)) r = ⟨r.data ++ l.toArray⟩ := by
    intro l
    induction l with
    | nil => intro r; simp
    | cons b l ih =>
      intro r
      rw [List.map_cons, List.foldl_cons, ih]
      simp [ByteArray.push]
  rw [key, sv]
  simp
theorem there_of_row {w : World} {b : Nat} {cs : Array Value} {t : TypeId} (h : w.heap[b]? = some (.cells cs t (0, 0))) (o n : Nat) (hn : o + n ≤ cs.size) : w.there b o n := fun j hj => by
  refine ⟨?_, frozen_of_row _ _ _ _ _ h⟩
  rw [cell_of_row w b (o + j) cs t _ h, Array.getElem?_eq_getElem (by omega)]; rfl
theorem But.setCell {b : Nat} {w w' : World} (h : But b w w') (o : Nat) (v : Value) : But b w (w'.setCell ⟨b, o, none⟩ v) :=
  ⟨h.os, h.tape, h.output, by simp [World.setCell]; exact h.size, fun k hk hb => (heap_setCell_other w' ⟨b, o, none⟩ k v hb).trans (h.block k hk hb)⟩
theorem But.setCells {b : Nat} {w : World} : ∀ (vs : List Value) (o : Nat) {w' : World}, But b w w' → But b w (w'.setCells b o vs)
  | [], _, _, h => h
  | v :: r, o, w', h => by rw [World.setCells]; exact But.setCells r (o + 1) (h.setCell o v)
theorem sv_data (l : List UInt8) : (ByteArray.mk l.toArray).data.toList = l := by simp
theorem sv_size (l : List UInt8) : (ByteArray.mk l.toArray).size = l.length := by rw [← data_length, sv_data]
def Texts (w : World) (g o : Nat) (ps : List (List UInt8)) : Prop := ∀ j p, ps[j]? = some p → w.cell? ⟨g, o + j, none⟩ = some (sv p)
def total (ps : List (List UInt8)) : Nat := ps.flatten.length
theorem take_flatten (ps : List (List UInt8)) (k : Nat) (h : k < ps.length) : (ps.take (k + 1)).flatten = (ps.take k).flatten ++ ps[k] := by
  rw [List.take_succ_eq_append_getElem h, List.flatten_append, List.flatten_cons, List.flatten_nil, List.append_nil]
theorem total_take (ps : List (List UInt8)) (k : Nat) (h : k < ps.length) : (ps.take k).flatten.length + ps[k].length ≤ total ps := by
  have e : ps.flatten = (ps.take (k + 1)).flatten ++ (ps.drop (k + 1)).flatten := by rw [← List.flatten_append, List.take_append_drop]
  rw [total, e, take_flatten ps k h]; simp
def Own (w : World) (base : Nat) (v : Value) (cs : List Value) : Prop :=
  (v = .slice none 0 0 ∧ cs = []) ∨
  ∃ g cap, v = .slice (some ⟨g, 0, none⟩) cs.length cap ∧ base ≤ g ∧ cs.length ≤ cap ∧ cap ≤ maxLen ∧ w.rangeAt g 0 cs ∧ w.there g 0 cap ∧ g < w.heap.size
theorem Own.nil (w : World) (base : Nat) : Own w base (.slice none 0 0) [] := .inl ⟨rfl, rfl⟩
theorem rangeAt_heap {w w' : World} {b o : Nat} {cs : List Value} (h : w.rangeAt b o cs) (hb : w'.heap[b]? = w.heap[b]?) : w'.rangeAt b o cs := fun j v hv => by
  rw [World.cell?_of_block (w := w) hb]; exact h j v hv
theorem there_heap {w w' : World} {b o n : Nat} (h : w.there b o n) (hb : w'.heap[b]? = w.heap[b]?) : w'.there b o n := fun j hj => by
  rw [World.cell?_of_block (w := w) hb, World.frozen?_of_block (w := w) hb]; exact h j hj
theorem Own.kept {w w' : World} {base : Nat} {v : Value} {cs : List Value} (h : Own w base v cs) (hs : w.heap.size ≤ w'.heap.size) (hb : ∀ g, v.ownBlock = some g → w'.heap[g]? = w.heap[g]?) : Own w' base v cs := by
  rcases h with h | ⟨g, cap, rfl, h1, h2, h3, h4, h5, h6⟩
  · exact .inl h
  · exact .inr ⟨g, cap, rfl, h1, h2, h3, rangeAt_heap h4 (hb g rfl), there_heap h5 (hb g rfl), by omega⟩
theorem Own.below {w w' : World} {base B : Nat} {v : Value} {cs : List Value} (h : Own w base v cs) (hb : Below B w w') (hB : w.heap.size ≤ B) : Own w' base v cs := by
  refine h.kept hb.size fun g hg => hb.block g ?_
  rcases h with ⟨rfl, _⟩ | ⟨g', cap, rfl, h1, h2, h3, h4, h5, h6⟩
  · cases hg
  · cases hg; show g' < B; omega
theorem Own.alloc {w : World} {base : Nat} {v : Value} {cs : List Value} (h : Own w base v cs) (o : Obj) : Own (w.alloc o) base v cs :=
  h.below (B := w.heap.size) ((Below.refl _ _).alloc (Nat.le_refl _) _) (Nat.le_refl _)
theorem Own.but {w w' : World} {base b : Nat} {v : Value} {cs : List Value} (h : Own w base v cs) (hb : But b w w') (hne : v.ownBlock ≠ some b) : Own w' base v cs := by
  refine h.kept hb.size fun g hg => hb.block g ?_ (fun e => hne (by rw [hg, e]))
  rcases h with ⟨rfl, _⟩ | ⟨g', cap, rfl, h1, h2, h3, h4, h5, h6⟩
  · cases hg
  · cases hg; exact h6
theorem Own.mono {w : World} {base base' : Nat} {v : Value} {cs : List Value} (h : Own w base v cs) (hb : base' ≤ base) : Own w base' v cs := by
  rcases h with h | ⟨g, cap, rfl, h1, h⟩
  · exact .inl h
  · exact .inr ⟨g, cap, rfl, by omega, h⟩
theorem Own.ge {w : World} {base : Nat} {v : Value} {cs : List Value} (h : Own w base v cs) : ∀ k, v.ownBlock = some k → base ≤ k := by
  rcases h with ⟨rfl, _⟩ | ⟨g, cap, rfl, h1, _⟩
  · intro k hk; cases hk
  · intro k hk; cases hk; exact h1
theorem run_append_O {P : Program} (w : World) (base : Nat) (t tx ty e : TypeId) (i : TypeInfo) (z : Value) (ht : P.underlying t = some (.slice e)) (hi : P.info? e = some i) (hz : i.zero = some z)
    (hsize : i.size = 1) (hzs : z.cells.size = 1) (v : Value) (cs : List Value) (hown : Own w base v cs) (x : Value) (n : Nat) (news : List Value) (hs : Src P 1 tx x n news w)
    (hbytes : (cs.length + n) * i.bytes ≤ 140737488355328) (h63 : cs.length + n ≤ maxLen) (hbase : base ≤ w.heap.size) (hpos : v = .slice none 0 0 → 0 < n) :
    ∃ v' w', (Builtin.append_ #[t, tx] ty #[v, x]).run P w = .ok v' w' ∧ Own w' base v' (cs ++ news) ∧ w.grownBy w' v.ownBlock ∧ (v'.ownBlock = v.ownBlock ∨ v'.ownBlock = some w.heap.size) := by
  have hn : news.length = n := by simpa using hs.newsLen
  have h63' : cs.length + n ≤ 9223372036854775807 := by simp only [maxLen] at h63; omega
  -- the arm that grows
  have grow : ∀ (b : Option Addr) (old : Nat), old < cs.length + n → v = .slice b cs.length old → (Builtin.firstCells 1 cs.length (.slice b cs.length old)).run P w.drew = .ok cs.toArray w.drew →
      ∃ v' w', (Builtin.append_ #[t, tx] ty #[v, x]).run P w = .ok v' w' ∧ Own w' base v' (cs ++ news) ∧ w.grownBy w' v.ownBlock ∧ (v'.ownBlock = v.ownBlock ∨ v'.ownBlock = some w.heap.size) := by
    intro b old ho hv hold
    have hr := run_append_grow_src (P := P) w t tx ty e i z ht hi hz b cs.length old cs (by rw [hsize]; exact hold) x n news (by rw [hsize]; exact hs) ho (by omega) (growslice_fits ho hbytes)
    have hge := grownCap_ge w (cs.length + n) old e
    have hcm : grownCap w (cs.length + n) old e ≤ maxLen := grownCap_le_maxLen w (cs.length + n) old e h63
    have hnew : (w.drew.alloc (.cells ((cs ++ news).toArray ++ Builtin.zeroCells z.cells (grownCap w (cs.length + n) old e - (cs.length + n))) e)).heap[w.heap.size]? = some (.cells ((cs ++ news).toArray ++ Builtin.zeroCells z.cells (grownCap w (cs.length + n) old e - (cs.length + n))) e (0, 0)) := heap_alloc_new w.drew _
    refine ⟨.slice (some ⟨w.heap.size, 0, none⟩) (cs.length + n) (grownCap w (cs.length + n) old e), w.drew.alloc (.cells ((cs ++ news).toArray ++ Builtin.zeroCells z.cells (grownCap w (cs.length + n) old e - (cs.length + n))) e), by rw [hv]; exact hr, .inr ⟨w.heap.size, grownCap w (cs.length + n) old e, by rw [List.length_append, hn], hbase, by rw [List.length_append, hn]; exact hge, hcm, ?_, ?_, ?_⟩, ⟨rfl, rfl, rfl, by rw [size_alloc]; exact Nat.le_succ w.heap.size, fun k hk _ => Below.heap_alloc w.drew _ k hk⟩, .inr rfl⟩
    · intro j u hj
      rw [cell_of_row _ _ _ _ _ _ hnew, Nat.zero_add]
      have hj' : j < (cs ++ news).length := (List.getElem?_eq_some_iff.1 hj).1
      rw [Array.getElem?_append_left (by simpa using hj')]
      simpa using hj
    · refine there_of_row hnew 0 _ ?_
      simp only [Array.size_append, List.size_toArray, size_zeroCells, hzs, List.length_append, hn]
      omega
    · rw [size_alloc]; exact Nat.lt_succ_self _
  rcases hown with ⟨rfl, rfl⟩ | ⟨g, cap, rfl, h1, h2, h3, h4, h5, h6⟩
  · exact grow none 0 (by have := hpos rfl; simp; omega) rfl (run_firstCells_none w.drew 1 0 0 0)
  · by_cases hroom : cs.length + n ≤ cap
    · have hr := run_append_room_src (P := P) w t tx ty e i ht hi g 0 cs.length cap x n news (by rw [hsize]; exact hs) hroom
        (fun j hj => by rw [hsize, Nat.mul_one]; exact by have := (h5 (cs.length + j) (by omega)).1; simpa [Nat.add_assoc] using this)
        (fun j hj => by rw [hsize, Nat.mul_one]; exact by have := (h5 (cs.length + j) (by omega)).2; simpa [Nat.add_assoc] using this)
      rw [hsize, Nat.mul_one, Nat.zero_add] at hr
      have ht' : w.there g cs.length news.length := fun j hj => by have := h5 (cs.length + j) (by omega); simpa using this
      refine ⟨_, _, hr, .inr ⟨g, cap, by rw [List.length_append, hn], h1, by rw [List.length_append, hn]; exact hroom, h3, ?_, World.there_setCells h5 _ _ _, ?_⟩, ?_, .inl rfl⟩
      · intro j u hj
        by_cases hjl : j < cs.length
        · rw [List.getElem?_append_left hjl] at hj
          exact World.rangeAt_setCells_apart h4 g cs.length news (.inr (.inl (by omega))) j u hj
        · rw [List.getElem?_append_right (by omega)] at hj
          have := World.rangeAt_setCells_same w g cs.length news ht' (j - cs.length) u hj
          rwa [show cs.length + (j - cs.length) = 0 + j from by omega] at this
      · have := (But.setCells news cs.length (But.refl g w)).size; omega
      · have hb := But.setCells news cs.length (But.refl g w)
        exact ⟨hb.os, hb.tape, hb.output, hb.size, fun k hk hne => hb.block k hk (fun e => hne (by rw [e]; rfl))⟩
    · refine grow (some ⟨g, 0, none⟩) cap (by omega) rfl ?_
      exact run_firstCells_some w.drew 1 cs.length ⟨g, 0, none⟩ cs.length cap cs (by simp) (fun j u hj => by rw [Addr.add_mid]; exact h4 j u hj)
theorem info5' : (Tryz.prog.info? 5).map (fun i => (i.zero, i.size, i.bytes)) = some (some (.int .u8 0), 1, 1) := by kernel_rfl
abbrev OwnB (w : World) (base : Nat) (v : Value) (bs : List UInt8) : Prop := Own w base v (bv bs)
theorem Own.shape {w : World} {base : Nat} {v : Value} {cs : List Value} (h : Own w base v cs) : ∃ a cap, v = .slice a cs.length cap := by
  rcases h with ⟨rfl, rfl⟩ | ⟨g, cap, rfl, _⟩
  · exact ⟨none, 0, rfl⟩
  · exact ⟨some ⟨g, 0, none⟩, cap, rfl⟩
theorem append_new (w : World) (base : Nat) (v : Value) (bs ns : List UInt8) (m : Nat) (C : Array Value) (hC : C = (bv ns).toArray) (hm : ns.length = m) (hown : OwnB w base v bs)
    (hlen : bs.length + m ≤ 140737488355328) (hbase : base ≤ w.heap.size) (hpos : 0 < m) :
    ∃ v' w', (Builtin.append_ #[91, 91] 91 #[v, .slice (some ⟨w.heap.size, 0, none⟩) m m]).run Tryz.prog (w.alloc (.cells C 5)) = .ok v' w' ∧ OwnB w' base v' (bs ++ ns) ∧
      w.grownBy w' v.ownBlock ∧ (v'.ownBlock = v.ownBlock ∨ v'.ownBlock = some (w.heap.size + 1)) := by
  subst hC
  obtain ⟨i0, hi, hz0, hz1, hz2⟩ := info_parts info5'
  have hsrc : Src Tryz.prog 1 91 (.slice (some ⟨w.heap.size, 0, none⟩) m m) m (bv ns) (w.alloc (.cells (bv ns).toArray 5)) :=
    Src.ofSlice _ Tryz.underlying91 ⟨w.heap.size, 0, none⟩ m m (bv ns) (by simp [hm]) (fun j u hj => by
      rw [Addr.add_mid, cell_of_row _ _ _ _ _ _ (heap_alloc_new w _), Nat.zero_add]; simpa using hj) (fun u hu => bv_mem hu)
  obtain ⟨v', w', h1, h2, h3, h4⟩ := run_append_O (P := Tryz.prog) (w.alloc (.cells (bv ns).toArray 5)) base 91 91 91 5 i0 (.int .u8 0) Tryz.underlying91 hi hz0 hz1 rfl v (bv bs) (hown.alloc _) _ m (bv ns) hsrc
    (by rw [bv_length, hz2]; omega) (by rw [bv_length, maxLen]; omega) (by rw [size_alloc]; omega) (fun _ => hpos)
  refine ⟨v', w', h1, by rw [OwnB, bv_append]; exact h2, ⟨h3.os, h3.tape, h3.output, by have := h3.size; rw [size_alloc] at this; omega, fun k hk hne => (h3.block k (by rw [size_alloc]; omega) hne).trans (Below.heap_alloc w _ k hk)⟩, by rw [size_alloc] at h4; exact h4⟩
theorem append_str (w : World) (base : Nat) (v : Value) (bs : List UInt8) (s : ByteArray) (hown : OwnB w base v bs)
    (hlen : bs.length + s.size ≤ 140737488355328) (hbase : base ≤ w.heap.size) (hpos : v = .slice none 0 0 → 0 < s.size) :
    ∃ v' w', (Builtin.append_ #[91, 9] 91 #[v, .string s]).run Tryz.prog w = .ok v' w' ∧ OwnB w' base v' (bs ++ s.data.toList) ∧
      w.grownBy w' v.ownBlock ∧ (v'.ownBlock = v.ownBlock ∨ v'.ownBlock = some w.heap.size) := by
  obtain ⟨i0, hi, hz0, hz1, hz2⟩ := info_parts info5'
  obtain ⟨v', w', h1, h2, h3, h4⟩ := run_append_O (P := Tryz.prog) w base 91 9 91 5 i0 (.int .u8 0) Tryz.underlying91 hi hz0 hz1 rfl v (bv bs) hown _ s.size (byteCells s) (Src.ofString w Tryz.underlying9 s)
    (by rw [bv_length, hz2]; omega) (by rw [bv_length, maxLen]; omega) hbase hpos
  exact ⟨v', w', h1, by rw [OwnB, bv_append]; exact h2, h3, h4⟩
theorem add_sv (P : Program) (t : TypeId) (a b : List UInt8) (h : a.length + b.length ≤ 9223372036854775807) (w : World) : (binOp .add t (sv a) (sv b)).run P w = .ok (sv (a ++ b)) w := by
  rw [sv, sv, binOp_string_add, run_string_add_sum w _ _ (by rw [sv_size, sv_size]; exact h), ByteArray.mk_append_mk]
  rfl
theorem conv_own {w : World} {base : Nat} {v : Value} {bs : List UInt8} (h : OwnB w base v bs) (hpos : v ≠ .slice none 0 0) : (convert 91 9 v).run Tryz.prog w = .ok (sv bs) w := by
  rcases h with ⟨rfl, _⟩ | ⟨g, cap, rfl, _, _, _, h4, _⟩
  · exact absurd rfl hpos
  · exact run_conv_bytes (P := Tryz.prog) w 91 9 5 g 0 (bv bs).length cap bs (by rw [bv_length]) Tryz.underlying91 Tryz.underlying5 Tryz.underlying9 h4
theorem index_any (s : ByteArray) (i : Int) (k : Nat) (hi : i = (k : Int)) (h : k < s.size) :
    ∃ x : Nat, Hid (x = (s.data.toList.getD k 0).toNat) ∧ x < 256 ∧ (∀ w, (Instr.index 9 (.string s) (.int .i64 i)).run Tryz.prog w = .ok (.int .u8 (x : Int)) w) ∧ ∀ (h : k < s.size), (s[k]'h).toNat = x := by
  have e : (s.data.toList.getD k 0).toNat = (s[k]'h).toNat := by
    rw [List.getD_eq_getElem?_getD, List.getElem?_eq_getElem (by rw [data_length]; exact h)]; rfl
  refine ⟨_, rfl, UInt8.toNat_lt _, fun w => ?_, fun _ => e.symm⟩
  subst hi
  rw [run_index_string w 9 s .i64 (k : Int) Tryz.underlying9, e]
  simp [h]
def Slc (w : World) (v : Value) (ps : List (List UInt8)) : Prop :=
  ∃ a cap, v = .slice a ps.length cap ∧ ∀ j p, ps[j]? = some p → ∃ x : Addr, a = some x ∧ x.block < w.heap.size ∧ w.cell? (x.add j) = some (sv p)
theorem add_block (x : Addr) (j : Nat) : (x.add j).block = x.block := by unfold Addr.add; split <;> rfl
theorem Slc.below {w w' : World} {v : Value} {ps : List (List UInt8)} {B : Nat} (h : Slc w v ps) (hb : Below B w w') (hB : w.heap.size ≤ B) : Slc w' v ps := by
  obtain ⟨a, cap, rfl, h⟩ := h
  refine ⟨a, cap, rfl, fun j p hp => ?_⟩
  obtain ⟨x, rfl, hx, hc⟩ := h j p hp
  exact ⟨x, rfl, Nat.lt_of_lt_of_le hx hb.size, (hb.cell (p := x.add j) (by rw [add_block]; omega)).trans hc⟩
def svs (L : List (List UInt8)) : List Value := L.map sv
theorem svs_length (L : List (List UInt8)) : (svs L).length = L.length := by simp [svs]
theorem infoS : (Tryz.prog.info? 9).map (fun i => (i.zero, i.size, i.bytes)) = some (some (.string ⟨#[]⟩), 1, 16) := by kernel_rfl
def SlcI (w : World) (v : Value) (cs : List Int) : Prop :=
  ∃ a cap, v = .slice a cs.length cap ∧ ∀ j c, cs[j]? = some c → ∃ x : Addr, a = some x ∧ x.block < w.heap.size ∧ w.cell? (x.add j) = some (.int .i64 c)
end Go.Proofs.YtmhgdcfmfcjagaaGreatDoor
