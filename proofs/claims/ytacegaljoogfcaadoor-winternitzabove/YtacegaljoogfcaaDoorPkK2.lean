import Derived.Test.YtacegaljoogfcaaDoorPkW3
import Derived.Test.YtacegaljoogfcaaDoorPkM2
import Derived.Lib.BufferWrite
import Derived.Lib.SlBuf
namespace Go.Proofs.YtacegaljoogfcaaDoor
open Go.RowKit

/-- a string of bytes -/
def sv (l : List UInt8) : Value := .string ⟨l.toArray⟩

theorem oneCell_of {l : List Value} (h : ∀ v ∈ l, v.oneCell' = true) : l.toArray.all (·.oneCell') = true := all_oneCell_toArray h
theorem bv_mem {l : List UInt8} {v : Value} (h : v ∈ bv l) : v.oneCell' = true := by
  simp only [bv, List.mem_map] at h
  obtain ⟨n, _, rfl⟩ := h
  rfl
theorem wv_mem {l : List Nat} {v : Value} (h : v ∈ wv l) : v.oneCell' = true := by
  simp only [wv, List.mem_map] at h
  obtain ⟨n, _, rfl⟩ := h
  rfl
@[simp] theorem bv_length (l : List UInt8) : (bv l).length = l.length := by simp [bv]
@[simp] theorem wv_length (l : List Nat) : (wv l).length = l.length := by simp [wv]
theorem bv_append (a b : List UInt8) : bv (a ++ b) = bv a ++ bv b := by simp [bv]

/-- a hasher's cells -/
def hcells (st : Sha.St) (rest : List UInt8) (n : Nat) : List Value := wv st.l ++ (bv rest ++ [.int .i64 (n : Int)])
theorem hcells_length {st : Sha.St} {rest : List UInt8} {n : Nat} (h : rest.length = 64) : (hcells st rest n).length = 73 := by
  simp [hcells, Sha.St.l, h]

theorem rangeAt_of_list {w : World} {b : Nat} {L : List Value} {t : TypeId} {fr : Nat × Nat} (hb : w.heap[b]? = some (.cells L.toArray t fr)) {o : Nat} {l : List Value} (h : ∀ j v, l[j]? = some v → L[o + j]? = some v) : w.rangeAt b o l := fun j v hv => by
  rw [cell_of_row w b (o + j) _ t fr hb]
  simpa using h j v hv
theorem hcells_state {w : World} {b : Nat} {st : Sha.St} {rest : List UInt8} {n : Nat} {t : TypeId} (h : w.heap[b]? = some (.cells (hcells st rest n).toArray t (0, 0))) : w.rangeAt b 0 (wv st.l) :=
  rangeAt_of_list h fun j v hv => by
    have hj : j < (wv st.l).length := (List.getElem?_eq_some_iff.1 hv).1
    rw [hcells, Nat.zero_add, List.getElem?_append_left hj]; exact hv
theorem hcells_rest {w : World} {b : Nat} {st : Sha.St} {rest : List UInt8} {n : Nat} {t : TypeId} (h : w.heap[b]? = some (.cells (hcells st rest n).toArray t (0, 0))) : w.rangeAt b 8 (bv rest) :=
  rangeAt_of_list h fun j v hv => by
    have hj : j < (bv rest).length := (List.getElem?_eq_some_iff.1 hv).1
    have h8 : (wv st.l).length = 8 := by simp [Sha.St.l]
    rw [hcells, List.getElem?_append_right (by omega), h8, show 8 + j - 8 = j from by omega, List.getElem?_append_left hj]; exact hv
theorem hcells_taken {w : World} {b : Nat} {st : Sha.St} {rest : List UInt8} {n : Nat} {t : TypeId} (h : w.heap[b]? = some (.cells (hcells st rest n).toArray t (0, 0))) (hl : rest.length = 64) : w.cell? ⟨b, 72, none⟩ = some (.int .i64 (n : Int)) := by
  rw [cell_of_row w b 72 _ t _ h]
  have h8 : (wv st.l).length = 8 := by simp [Sha.St.l]
  have h64 : (bv rest).length = 64 := by simp [hl]
  simp only [List.getElem?_toArray]
  rw [hcells, List.getElem?_append_right (by omega), h8, List.getElem?_append_right (by omega), h64]
  rfl

/-- everything but block b is as it was -/
structure But (b : Nat) (w w' : World) : Prop where
  os : w'.os = w.os
  tape : w'.tape = w.tape
  output : w'.output = w.output
  size : w.heap.size ≤ w'.heap.size
  block : ∀ k, k < w.heap.size → k ≠ b → w'.heap[k]? = w.heap[k]?
theorem But.refl (b : Nat) (w : World) : But b w w := ⟨rfl, rfl, rfl, Nat.le_refl _, fun _ _ _ => rfl⟩
theorem But.trans {b : Nat} {w w1 w2 : World} (h : But b w w1) (k : But b w1 w2) : But b w w2 :=
  ⟨k.os.trans h.os, k.tape.trans h.tape, k.output.trans h.output, Nat.le_trans h.size k.size, fun i hi hb => (k.block i (Nat.lt_of_lt_of_le hi h.size) hb).trans (h.block i hi hb)⟩
theorem But.below {b B : Nat} {w w' : World} (h : But b w w') (hB : B ≤ b) (hB' : B ≤ w.heap.size) : Below B w w' :=
  ⟨h.os, h.tape, h.output, h.size, fun k hk => h.block k (by omega) (by omega)⟩
theorem But.ofBelow {b : Nat} {w w' : World} (h : Below w.heap.size w w') : But b w w' := ⟨h.os, h.tape, h.output, h.size, fun k hk _ => h.block k hk⟩
theorem But.setRow {b : Nat} {w w' : World} (h : But b w w') (cs : Array Value) : But b w (w'.setRow b cs) :=
  ⟨h.os, h.tape, h.output, by rw [setRow_size]; exact h.size, fun k hk hb => (setRow_other w' b k cs hb).trans (h.block k hk hb)⟩
theorem But.drew {b : Nat} {w w' : World} (h : But b w w') : But b w w'.drew := ⟨h.os, h.tape, h.output, h.size, h.block⟩
theorem But.drewN {b : Nat} {w w' : World} (h : But b w w') (n : Nat) : But b w (w'.drewN n) := ⟨h.os, h.tape, h.output, h.size, h.block⟩
theorem But.tabs {b : Nat} {w w' : World} (h : But b w w') (T : Tabs w) (hb : 2 ≤ b) : Tabs w' := T.below (h.below hb T.lt) (Nat.le_refl 2)

/-- copy(dst, s) of a string into a row: as many bytes as fit -/
theorem run_copy_min {P : Program} (w : World) (dT sT ty elem : TypeId) (g o dLen dCap : Nat) (s : ByteArray) (cur : Array Value) (t : TypeId)
    (hu : P.underlying dT = some (.slice elem)) (hs : (P.info? elem).map (·.size) = some 1) (hg : w.heap[g]? = some (.cells cur t (0, 0))) (hfit : o + min s.size dLen ≤ cur.size) :
    (Builtin.copy_ #[dT, sT] ty #[.slice (some ⟨g, o, none⟩) dLen dCap, .string s]).run P w =
      .ok (goInt ((min s.size dLen : Nat) : Int)) (w.setRow g (cur.toList.take o ++ bv (s.data.toList.take (min s.size dLen)) ++ cur.toList.drop (o + min s.size dLen)).toArray) := by
  have hlen : (bv (s.data.toList.take (min s.size dLen))).length = min s.size dLen := by
    have : s.data.toList.length = s.size := by rw [Array.length_toList]; rfl
    simp [List.length_take, this]
  have hst := run_storeCells_at P g o t (bv (s.data.toList.take (min s.size dLen))) 0 cur w hg (by rw [hlen]; simpa using hfit) (fun v hv => bv_mem hv)
  rw [hlen] at hst
  simp only [Nat.add_zero] at hst
  have htk : List.take (Nat.min s.size dLen) (List.map (fun b : UInt8 => Value.int IntKind.u8 (b.toNat : Int)) s.data.toList) = bv (s.data.toList.take (min s.size dLen)) := by
    rw [bv, List.map_take]
  cases hq : P.info? elem with
  | none => simp [hq] at hs
  | some i =>
    simp [Builtin.copy_, run_underlying hu, Builtin.lenOf, Builtin.firstCells, sizeOf, typeInfo, hq]
    rw [htk, hst]
    simp [Result.andThen]

/-- string(b) of bytes that lie in a row -/
theorem run_conv_bytes {P : Program} (w : World) (src dst e : TypeId) (g o len cap : Nat) (bs : List UInt8) (hl : bs.length = len)
    (hs : P.underlying src = some (.slice e)) (he : P.underlying e = some (.int .u8)) (hd : P.underlying dst = some .string)
    (hc : w.rangeAt g o (bv bs)) : (convert src dst (.slice (some ⟨g, o, none⟩) len cap)).run P w = .ok (sv bs) w := by
  have hb : (bv bs) = (bs.map fun b => (b.toNat : Int)).map (Value.int .u8) := by simp [bv]
  have hlc : (loadCells ⟨g, o, none⟩ len).run P w = .ok ((bs.map fun b => (b.toNat : Int)).map (Value.int .u8)).toArray w := by
    rw [← hb, ← hl, ← bv_length bs]
    exact run_loadCells_list (P := P) w ⟨g, o, none⟩ (bv bs) (fun j v hv => by rw [Addr.add_mid]; exact hc j v hv)
  rw [run_convert_bytes_string w src dst e _ len cap hs he hd, run_bytesToString w _ len cap _ hlc]
  congr 1
  have key : ∀ (l : List UInt8) (r : ByteArray), (l.map fun b => (b.toNat : Int)).foldl (fun r n => r.push (UInt8.ofNat n.toNat)) r = ⟨r.data ++ l.toArray⟩ := by
    intro l
    induction l with
    | nil => intro r; simp
    | cons b l ih =>
      intro r
      rw [List.map_cons, List.foldl_cons, ih]
      simp [ByteArray.push]
  rw [key, sv]
  simp
end Go.Proofs.YtacegaljoogfcaaDoor
