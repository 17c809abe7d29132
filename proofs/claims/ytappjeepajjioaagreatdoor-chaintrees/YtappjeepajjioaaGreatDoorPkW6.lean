import Derived.Test.YtappjeepajjioaaGreatDoorPkCM2
import Derived.Test.YtappjeepajjioaaGreatDoorPkM1
import Derived.Deep.AppendSrc
import Derived.Lib.ConvBytes
import Derived.Lib.AppendZeros
namespace Go.Proofs.YtappjeepajjioaaGreatDoor
open Go.RowKit

def strLen : Value → Nat
  | .string s => s.size
  | _ => 0

/-- a hasher that has taken t lies in block b -/
def Has (b : Nat) (t : List UInt8) (w : World) : Prop :=
  ∃ st rest, Sha.HS t st rest ∧ w.heap[b]? = some (.cells (hcells st rest t.length).toArray 176 (0, 0))

theorem info5 : (Tryz.prog.info? 5).map (·.size) = some 1 := by kernel_rfl
theorem data_length (r : ByteArray) : r.data.toList.length = r.size := by rw [Array.length_toList]; rfl

/-- the copy of what fits of r into the block's rest -/
theorem copy_step (wr : World) (b n : Nat) (st : Sha.St) (rest : List UInt8) (r : ByteArray) (hl : rest.length = 64) (h0 : 0 < r.size)
    (hh : wr.heap[b]? = some (.cells (hcells st rest n).toArray 176 (0, 0))) :
    ∃ (c : Nat) (w2 : World), 1 ≤ c ∧ c ≤ r.size ∧ n % 64 + c ≤ 64 ∧ (n % 64 + c < 64 → c = r.size) ∧
      (Builtin.copy_ #[64, 9] 3 #[.slice (some ⟨b, 8 + n % 64, none⟩) (64 - n % 64) (64 - n % 64), .string r]).run Tryz.prog wr = .ok (.int .i64 (c : Int)) w2 ∧
      w2.heap[b]? = some (.cells (hcells st (Sha.over rest (n % 64) (r.data.toList.take c)) n).toArray 176 (0, 0)) ∧ But b wr w2 := by
  have hsz : (hcells st rest n).toArray.size = 73 := by rw [List.size_toArray, hcells_length hl]
  have e := run_copy_min (P := Tryz.prog) wr 64 9 3 5 b (8 + n % 64) (64 - n % 64) (64 - n % 64) r _ _ Tryz.underlying64 info5 hh (by rw [hsz]; omega)
  refine ⟨min r.size (64 - n % 64), _, by omega, by omega, by omega, by omega, e, ?_, (But.refl b wr).setRow _⟩
  rw [setRow_heap _ _ _ _ _ _ hh]
  refine congrArg (fun a => some (Obj.cells a 176 (0, 0))) ?_
  have h8 : (wv st.l).length = 8 := by simp [Sha.St.l]
  have hu : (r.data.toList.take (min r.size (64 - n % 64))).length = min r.size (64 - n % 64) := by rw [List.length_take, data_length]; omega
  generalize hU : r.data.toList.take (min r.size (64 - n % 64)) = u at hu ⊢
  have hm : n % 64 + min r.size (64 - n % 64) ≤ 64 := by omega
  generalize min r.size (64 - n % 64) = c at hu hm ⊢
  rw [hcells, hcells, Sha.over, bv_append, bv_append]
  rw [List.take_append, List.take_of_length_le (by omega), h8, show 8 + n % 64 - 8 = n % 64 from by omega, List.take_append_of_le_length (by simp; omega)]
  rw [List.drop_append, List.drop_eq_nil_of_le (by omega), h8, List.nil_append, show 8 + n % 64 + c - 8 = n % 64 + c from by omega, List.drop_append_of_le_length (by simp; omega)]
  simp only [bv, List.map_take, List.map_drop, List.append_assoc, hu]

theorem rangeAt_below {w w' : World} {B b o : Nat} {cs : List Value} (h : w.rangeAt b o cs) (hb : Below B w w') (hB : b < B) : w'.rangeAt b o cs := fun j v hv => by
  rw [hb.cell (p := ⟨b, o + j, none⟩) hB]; exact h j v hv
theorem there_below {w w' : World} {B b o n : Nat} (h : w.there b o n) (hb : Below B w w') (hB : b < B) : w'.there b o n := fun j hj => by
  rw [hb.cell (p := ⟨b, o + j, none⟩) hB, hb.frozen (p := ⟨b, o + j, none⟩) hB]; exact h j hj
theorem there_of_row {w : World} {b : Nat} {cs : Array Value} {t : TypeId} (h : w.heap[b]? = some (.cells cs t (0, 0))) (o n : Nat) (hn : o + n ≤ cs.size) : w.there b o n := fun j hj => by
  refine ⟨?_, frozen_of_row _ _ _ _ _ h⟩
  rw [cell_of_row w b (o + j) cs t _ h, Array.getElem?_eq_getElem (by omega)]; rfl

theorem hcells_setTaken {st : Sha.St} {rest : List UInt8} {n m : Nat} (h : rest.length = 64) : (hcells st rest n).toArray.setIfInBounds 72 (.int .i64 (m : Int)) = (hcells st rest m).toArray := by
  have e : hcells st rest n = (wv st.l ++ bv rest) ++ [.int .i64 (n : Int)] := by simp [hcells]
  have h72 : (wv st.l ++ bv rest).length = 72 := by simp [Sha.St.l, h]
  rw [e, ← h72]
  simp [hcells]
theorem But.setCell {b : Nat} {w w' : World} (h : But b w w') (o : Nat) (v : Value) : But b w (w'.setCell ⟨b, o, none⟩ v) :=
  ⟨h.os, h.tape, h.output, by simp [World.setCell]; exact h.size, fun k hk hb => (heap_setCell_other w' ⟨b, o, none⟩ k v hb).trans (h.block k hk hb)⟩
theorem heap_setTaken {w : World} {b : Nat} {st : Sha.St} {rest : List UInt8} {n : Nat} (h : rest.length = 64) (hh : w.heap[b]? = some (.cells (hcells st rest n).toArray 176 (0, 0))) (m : Nat) :
    (w.setCell ⟨b, 72, none⟩ (.int .i64 (m : Int))).heap[b]? = some (.cells (hcells st rest m).toArray 176 (0, 0)) := by
  rw [heap_setCell_same _ _ _ _ _ _ hh, hcells_setTaken h]
theorem heap_setCells (b : Nat) (t : TypeId) : ∀ (vs pre old post : List Value) (w : World), old.length = vs.length → w.heap[b]? = some (.cells (pre ++ old ++ post).toArray t (0, 0)) →
    (w.setCells b pre.length vs).heap[b]? = some (.cells (pre ++ vs ++ post).toArray t (0, 0))
  | [], pre, old, post, w, hl, h => by
    obtain rfl : old = [] := List.length_eq_zero_iff.1 hl
    simpa [World.setCells] using h
  | v :: r, pre, [], post, w, hl, h => by simp at hl
  | v :: r, pre, x :: old, post, w, hl, h => by
    rw [World.setCells]
    have h1 : (w.setCell ⟨b, pre.length, none⟩ v).heap[b]? = some (.cells ((pre ++ [v]) ++ old ++ post).toArray t (0, 0)) := by
      rw [heap_setCell_same _ _ _ _ _ _ h]
      simp
    have := heap_setCells b t r (pre ++ [v]) old post _ (by simpa using hl) h1
    simpa using this
theorem heap_setState {w : World} {b : Nat} {st : Sha.St} {rest : List UInt8} {n : Nat} (hh : w.heap[b]? = some (.cells (hcells st rest n).toArray 176 (0, 0))) (F : Sha.St) :
    (w.setCells b 0 (wv F.l)).heap[b]? = some (.cells (hcells F rest n).toArray 176 (0, 0)) := by
  have := heap_setCells b 176 (wv F.l) [] (wv st.l) (bv rest ++ [.int .i64 (n : Int)]) w (by simp [Sha.St.l]) (by simpa [hcells] using hh)
  simpa [hcells] using this
theorem But.setCells {b : Nat} {w : World} : ∀ (vs : List Value) (o : Nat) {w' : World}, But b w w' → But b w (w'.setCells b o vs)
  | [], _, _, h => h
  | v :: r, o, w', h => by rw [World.setCells]; exact But.setCells r (o + 1) (h.setCell o v)
theorem words_at (b n : Nat) (st st1 : Sha.St) (h1 : Hid ((if n < 64 then Sha.iv else st) = st1)) (rest : List UInt8) (hl : rest.length = 64) (w : World) (T : Tabs w)
    (hb : w.heap[b]? = some (.cells (hcells st rest n).toArray 176 (0, 0))) :
    Calls Tryz.prog 145 #[.pointer (some ⟨b, 0, none⟩)] w fun e w' => e = .returned (.agg (wv st1.l).toArray) ∧ Below w.heap.size w w' := by
  have := words_any b n st rest hl w T hb
  rwa [h1.out] at this
theorem store_state (P : Program) (b : Nat) (F : Sha.St) (w : World) (h : w.there b 0 8) : (storeCells ⟨b, 0, none⟩ (wv F.l)).run P w = .ok () (w.setCells b 0 (wv F.l)) := by
  have h8 : (wv F.l).length = 8 := by simp [Sha.St.l]
  have := run_storeCells_cells (P := P) b 0 (wv F.l) 0 w (fun j hj => by simpa using (h j (by omega)).1) (fun j hj => by simpa using (h j (by omega)).2) (fun v hv => wv_mem hv)
  simpa using this
theorem fold_at (s F : Sha.St) (hs : s.ok) (bl : List UInt8) (hF : Hid (Sha.fold s bl = F)) (hb : bl.length = 64) (w : World) (T : Tabs w) :
    Calls Tryz.prog 144 #[.agg (wv s.l).toArray, .agg (bv bl).toArray] w fun e w' => e = .returned (.agg (wv F.l).toArray) ∧ Below w.heap.size w w' := by
  have := fold_any s hs bl hb w T
  rwa [hF.out] at this
theorem drop_rest (r : ByteArray) (c : Nat) : (r.extract c r.size).data.toList = r.data.toList.drop c := by
  rw [Lib.extract_data]
  rw [List.take_of_length_le (by simp)]

set_option maxRecDepth 100000 in
set_option maxHeartbeats 400000 in
theorem write_any (b : Nat) (t : List UInt8) (s : ByteArray) (hlen : t.length + s.size < 2305843009213693952) (w : World) (T : Tabs w) (hb2 : 4 ≤ b) (hb : Has b t w) :
    Calls Tryz.prog 129 #[.pointer (some ⟨b, 0, none⟩), .string s] w fun e w' => e = .returned (.tuple #[]) ∧ Has b (t ++ s.data.toList) w' ∧ But b w w' := by
  go_enter Tryz.func129, Tryz.ntmps129
  go_wp2
  go_loopw [1] (fun v w' => ∃ (r : ByteArray) (tt : List UInt8), v = .string r ∧ Hid (tt ++ r.data.toList = t ++ s.data.toList) ∧ Has b tt w' ∧ But b w w') (fun v _ => strLen v)
  case atStart => exact ⟨s, t, rfl, rfl, hb, But.refl _ _⟩
  case round =>
    obtain ⟨r, tt, rfl, hr, ⟨st, rest, hs, hh⟩, hbut⟩ := hrel
    have hrl : tt.length + r.size < 2305843009213693952 := by
      have := congrArg List.length hr.out
      have e1 : r.data.toList.length = r.size := by rw [Array.length_toList]; rfl
      have e2 : s.data.toList.length = s.size := by rw [Array.length_toList]; rfl
      simp only [List.length_append] at this
      omega
    have T' := hbut.tabs T hb2
    by_cases h0 : 0 < r.size
    · have h0' : (0 : Int) < (r.size : Int) := by omega
      have c72 := hcells_taken hh hs.len
      generalize hn : tt.length = n at *
      have Hn : Hid _ := hn
      clear hn
      have b1 : (n : Int) % 64 ≤ 64 := by omega
      have b2 : (0 : Int) ≤ (n : Int) % 64 := by omega
      have t1 : ((n : Int) % 64).toNat = n % 64 := by omega
      obtain ⟨c, w2, k1, k2, k3, k4, hcp, hh2, hb2'⟩ := copy_step wr b n st rest r hs.len h0 hh
      have hul : (r.data.toList.take c).length = c := by rw [List.length_take, data_length]; omega
      have hol : (Sha.over rest (n % 64) (r.data.toList.take c)).length = 64 := by rw [Sha.over_length _ _ _ (by rw [hul, hs.len]; omega), hs.len]
      have d72 := hcells_taken hh2 hol
      have f72 : w2.frozen? ⟨b, 72, none⟩ = false := frozen_of_row _ _ _ _ _ hh2
      have hlt2 := lt_of_heap hh2
      have T2 : Tabs w2 := hb2'.tabs T' hb2
      have Hhs : Hid (Sha.HS tt st rest) := hs
      have Hul : Hid _ := hul
      have Hol : Hid _ := hol
      clear hs hul hol hh
      generalize hrest2 : Sha.over rest (n % 64) (r.data.toList.take c) = rest2 at *
      have Hr2 : Hid _ := hrest2
      clear hrest2
      have fin : Hid ((r.extract c r.size).data.toList = r.data.toList.drop c) := drop_rest r c
      by_cases hfull : n % 64 + c = 64
      · have g1 : ((n : Int) % 64 + (c : Int) == 64) = true := by simp; omega
        have hu := Tryz.underlying174
        have hi : (Tryz.prog.info? 174).map (·.size) = some (bv rest2).length := by rw [info64b, bv_length, Hol.out]
        have hi2 : (bv rest2).length = 64 := by rw [bv_length, Hol.out]
        have ho : ∀ v ∈ bv rest2, v.oneCell' = true := fun v hv => bv_mem hv
        have rg := hcells_rest hh2
        have th := there_of_row hh2 0 8 (by rw [List.size_toArray, hcells_length Hol.out]; omega)
        have hi3 := size8 (Sha.fold (if n < 64 then Sha.iv else st) rest2)
        have hi4 : (wv (Sha.fold (if n < 64 then Sha.iv else st) rest2).l).length = 8 := rfl
        have ho2 : ∀ v ∈ wv (Sha.fold (if n < 64 then Sha.iv else st) rest2).l, v.oneCell' = true := fun v hv => wv_mem hv
        go_wp2
        have hok : (if n < 64 then Sha.iv else st).ok := by split; exact Sha.iv_ok; exact Hhs.out.ok
        generalize hst1 : (if n < 64 then Sha.iv else st) = st1 at *
        have Hst1 : Hid _ := hst1
        clear hst1
        generalize hF : Sha.fold st1 rest2 = F at *
        have HF : Hid _ := hF
        clear hF
        have hstore := store_state Tryz.prog b F
        have rg1 : w2.drew.rangeAt b 8 (bv rest2) := (World.rangeAt_drew _ _ _ _).2 rg
        have th1 : w2.drew.there b 0 8 := (World.there_drew _ _ _ _).2 th
        have hlt3 : b < w2.drew.heap.size := hlt2
        go_region_held3 (fun w' => w'.rangeAt b 8 (bv rest2) ∧ w'.there b 0 8) (first | with_reducible exact ⟨rg1, th1⟩ | with_reducible exact ⟨rg3, th3⟩ | with_reducible exact ⟨rg4, th4⟩ | with_reducible exact ⟨rg5, th5⟩)
          (first
            | (go_at_call 145; refine (words_at b n st st1 Hst1 rest2 Hol.out _ ?_ ?_).mono ?_; (exact T2.below (Below.refl 4 w2).drew (Nat.le_refl 4)); (exact hh2); rintro e w3 ⟨rfl, hw3⟩; have rg3 := rangeAt_below rg1 hw3 hlt3; have th3 := there_below th1 hw3 hlt3)
            | (go_at_call 144; refine (fold_at st1 F hok rest2 HF Hol.out _ ?_).mono ?_; (exact T2.below ((Below.refl 4 w2).drew.trans (hw3.mono T2.lt)) (Nat.le_refl 4)); rintro e w4 ⟨rfl, hw4⟩; have rg4 := rangeAt_below rg3 hw4 (Nat.lt_of_lt_of_le hlt3 hw3.size); have th4 := there_below th3 hw4 (Nat.lt_of_lt_of_le hlt3 hw3.size); have rg5 := World.rangeAt_setCells_apart rg4 b 0 (wv F.l) (Or.inr (Or.inr (Nat.le_refl 8))); have th5 := World.there_setCells th4 b 0 (wv F.l)))
        have hh5 := heap_setState ((hw4.block b (Nat.lt_of_lt_of_le hlt3 hw3.size)).trans ((hw3.block b hlt3).trans hh2)) F
        have hb5 : But b w (w4.setCells b 0 (wv F.l)) := But.setCells _ _ ((((hbut.trans hb2').drew).trans (But.ofBelow hw3)).trans (But.ofBelow hw4))
        generalize w4.setCells b 0 (wv F.l) = w5 at *
        clear rg1 th1 rg3 th3 rg4 th4 rg5 th5 hstore hw3 hw4 d72 f72 rg th
        have d72 := hcells_taken hh5 Hol.out
        have f72 : w5.frozen? ⟨b, 72, none⟩ = false := frozen_of_row _ _ _ _ _ hh5
        go_wp2
        refine ⟨⟨_, tt ++ r.data.toList.take c, rfl, ?_, ⟨F, rest2, ?_, ?_⟩, hb5.setCell _ _⟩, ?_⟩
        · show _ = _
          rw [fin.out, List.append_assoc, List.take_append_drop]; exact hr.out
        · have := Sha.HS.full Hhs.out (r.data.toList.take c) (by rw [Hn.out, Hul.out]; omega)
          rwa [Hn.out, Hr2.out, Hst1.out, HF.out] at this
        · rw [List.length_append, Hn.out, Hul.out]
          exact heap_setTaken Hol.out hh5 (n + c)
        · simp [strLen]; omega
      · have g1 : ((n : Int) % 64 + (c : Int) == 64) = false := by simp; omega
        go_wp2
        have hcr : c = r.size := k4 (by omega)
        refine ⟨⟨_, tt ++ r.data.toList.take c, rfl, ?_, ⟨st, rest2, ?_, ?_⟩, (hbut.trans hb2').setCell _ _⟩, ?_⟩
        · show _ = _
          rw [fin.out, List.append_assoc, List.take_append_drop]; exact hr.out
        · have := Sha.HS.part Hhs.out (r.data.toList.take c) (by rw [Hn.out, Hul.out]; omega)
          rwa [Hn.out, Hr2.out] at this
        · rw [List.length_append, Hn.out, Hul.out]
          exact heap_setTaken Hol.out hh2 (n + c)
        · simp [strLen]; omega
    · have h0' : ¬ (0 : Int) < (r.size : Int) := by omega
      have hz : r.size = 0 := by omega
      have Hz : Hid _ := hz
      clear hz
      go_wp2
      go_end0
      have : r.data.toList = [] := List.length_eq_zero_iff.1 (by rw [data_length]; exact Hz.out)
      have e := hr.out
      rw [this, List.append_nil] at e
      exact ⟨rfl, ⟨st, rest, by rw [← e]; exact hs, by rw [← e]; exact hh⟩, hbut⟩
end Go.Proofs.YtappjeepajjioaaGreatDoor

namespace Go.Proofs.YtappjeepajjioaaGreatDoor
open Go.RowKit

theorem hid {p : Prop} (h : p) : Hid p := h
theorem sv_data (l : List UInt8) : (ByteArray.mk l.toArray).data.toList = l := by simp
theorem sv_size (l : List UInt8) : (ByteArray.mk l.toArray).size = l.length := by rw [← data_length, sv_data]
theorem write_sv (b : Nat) (t l : List UInt8) (hlen : t.length + l.length < 2305843009213693952) (w : World) (T : Tabs w) (hb2 : 4 ≤ b) (hb : Has b t w) :
    Calls Tryz.prog 129 #[.pointer (some ⟨b, 0, none⟩), sv l] w fun e w' => e = .returned (.tuple #[]) ∧ Has b (t ++ l) w' ∧ But b w w' := by
  have := write_any b t ⟨l.toArray⟩ (by rw [sv_size]; exact hlen) w T hb2 hb
  rwa [sv_data] at this
theorem Has.lt {b : Nat} {t : List UInt8} {w : World} (h : Has b t w) : b < w.heap.size := by
  obtain ⟨st, rest, _, hh⟩ := h
  exact lt_of_heap hh
theorem Has.below {b B : Nat} {t : List UInt8} {w w' : World} (h : Has b t w) (hb : Below B w w') (hB : b < B) : Has b t w' := by
  obtain ⟨st, rest, h1, hh⟩ := h
  exact ⟨st, rest, h1, (hb.block b hB).trans hh⟩
theorem Has.but {b c : Nat} {t : List UInt8} {w w' : World} (h : Has b t w) (hb : But c w w') (hne : b ≠ c) : Has b t w' := by
  have hl := h.lt
  obtain ⟨st, rest, h1, hh⟩ := h
  exact ⟨st, rest, h1, (hb.block b hl hne).trans hh⟩

theorem new_hasher (w1 : World) (Z C : Array Value) : ((w1.alloc (.cells Z 176)).setRow w1.heap.size C).heap[w1.heap.size]? = some (.cells C 176 (0, 0)) ∧
    Below w1.heap.size w1 ((w1.alloc (.cells Z 176)).setRow w1.heap.size C) :=
  ⟨setRow_heap _ _ _ _ _ _ (heap_alloc_new w1 _), Below.setRow ((Below.refl _ _).alloc (Nat.le_refl _) _) (Nat.le_refl _) _⟩

set_option maxRecDepth 100000 in
set_option maxHeartbeats 400000 in
theorem hsum_any (b : Nat) (t : List UInt8) (hlen : t.length < 2305843009213693800) (w : World) (T : Tabs w) (hb : Has b t w) :
    Calls Tryz.prog 130 #[.pointer (some ⟨b, 0, none⟩)] w fun e w' => e = .returned (sv (Sha.sha t)) ∧ Below w.heap.size w w' := by
  obtain ⟨st, rest, hs, hh⟩ := hb
  have HH : Hid _ := hh
  have HS : Hid _ := hs
  have hl := hs.len
  have hT := T.lt
  clear hh hs
  have hz := zero60
  go_enter Tryz.func130, Tryz.ntmps130
  go_wp2_with (first
    | (go_at_call 146; refine (copied_any b _ st rest hl _ HH.out).mono ?_; rintro e w1 ⟨rfl, hw1⟩)
    | (with_reducible show wpList _ _ _ (Oper.mk _ (Op.store 176 _ _) _ _ _ _ :: _) _ _; go_must (refine wpList_store_row rfl 176 _ _ rfl w1.heap.size _ rfl rfl 176 _ (heap_alloc_new w1 _) (size73 hl) (by rw [List.size_toArray, List.size_toArray, hcells_length hl, hcells_length (by simp [r0])]) (hcells_one _ _ _) ?_); go_must (obtain ⟨hh2, hw2⟩ := new_hasher w1 (hcells z0 r0 0).toArray (hcells st rest t.length).toArray; have hM := hw1.size; replace hw2 := hw1.trans (hw2.mono hM); generalize (w1.alloc (Obj.cells (hcells z0 r0 0).toArray 176)).setRow w1.heap.size (hcells st rest t.length).toArray = w2 at *; generalize w1.heap.size = M at *; clear hw1; have d72 := hcells_taken hh2 hl; have T2 := T.below hw2 hT; have Hh2 := hid hh2; clear hh2))
    | (go_at_call 147; refine (filling_any _ (by omega) _).mono ?_; rintro e w3 ⟨rfl, hw3⟩)
    | (go_at_call 129; refine (write_sv M t (Sha.filling t.length) (by have := Sha.filling_mod t.length; omega) _ (T2.below hw3 T2.lt) (by omega) (Has.below ⟨st, rest, HS.out, Hh2.out⟩ hw3 (lt_of_heap Hh2.out))).mono ?_; rintro e w4 ⟨rfl, ⟨st4, rest4, hs4, hh4⟩, hw4⟩; have Hs4 := hid hs4; have Hh4 := hid hh4; clear hs4 hh4)
    | (with_reducible show wpList _ _ _ (Oper.mk _ (Op.load 173 _) _ _ _ _ :: _) _ _; go_must (refine wpList_load_mid rfl 173 _ rfl M 0 rfl _ _ (hcells_state Hh4.out) Tryz.underlying173 rfl (size8 _) ?_))
    | (go_at_call 148; refine (wordBytes_any st4 Hs4.out.ok _).mono ?_; rintro e w5 ⟨rfl, hw5⟩))
  go_ret
  refine ⟨?_, ?_⟩
  · show Ending.returned (sv st4.bytes) = _
    rw [Hs4.out.sum]
  · have hlt := lt_of_heap Hh2.out
    have b2 := hw3.size
    have b4 := hw4.size
    have b1 := hw2.size
    exact ((hw2.trans (hw3.mono (by omega))).trans (hw4.below hM (by omega))).trans (hw5.mono (by omega))

/-- texts in a row of cells -/
def Texts (w : World) (g o : Nat) (ps : List (List UInt8)) : Prop := ∀ j p, ps[j]? = some p → w.cell? ⟨g, o + j, none⟩ = some (sv p)
def total (ps : List (List UInt8)) : Nat := ps.flatten.length
theorem take_flatten (ps : List (List UInt8)) (k : Nat) (h : k < ps.length) : (ps.take (k + 1)).flatten = (ps.take k).flatten ++ ps[k] := by
  rw [List.take_succ_eq_append_getElem h, List.flatten_append, List.flatten_cons, List.flatten_nil, List.append_nil]
theorem total_take (ps : List (List UInt8)) (k : Nat) (h : k < ps.length) : (ps.take k).flatten.length + ps[k].length ≤ total ps := by
  have e : ps.flatten = (ps.take (k + 1)).flatten ++ (ps.drop (k + 1)).flatten := by rw [← List.flatten_append, List.take_append_drop]
  rw [total, e, take_flatten ps k h]; simp

set_option maxRecDepth 100000 in
set_option maxHeartbeats 400000 in
theorem sum_none (w : World) (T : Tabs w) :
    Calls Tryz.prog 97 #[.slice none 0 0] w fun e w' => e = .returned (sv (Sha.sha [])) ∧ Below w.heap.size w w' := by
  have hz := zero60
  have hT := T.lt
  go_enter Tryz.func97, Tryz.ntmps97
  go_wp2
  refine wp_loop_rounds 1 ?_
  rw [rounds_succ]
  go_wp2_with (go_at_call 130; refine (hsum_any w.heap.size [] (by simp) _ (T.below ((Below.refl _ _).alloc (Nat.le_refl _) _) hT) ⟨z0, r0, Sha.HS.none, heap_alloc_new w _⟩).mono ?_; rintro e w5 ⟨rfl, hw5⟩)
  go_ret
  refine ⟨rfl, ?_⟩
  exact ((Below.refl _ _).alloc (Nat.le_refl _) _).trans (hw5.mono (by rw [size_alloc]; omega))

set_option maxRecDepth 100000 in
set_option maxHeartbeats 400000 in
theorem sum_any (g o cap : Nat) (ps : List (List UInt8)) (hlen : total ps < 2305843009213693800) (hps : ps.length ≤ maxLen) (w : World) (T : Tabs w) (hg : g < w.heap.size) (hp : Texts w g o ps) :
    Calls Tryz.prog 97 #[.slice (some ⟨g, o, none⟩) ps.length cap] w fun e w' => e = .returned (sv (Sha.sha ps.flatten)) ∧ Below w.heap.size w w' := by
  have hz := zero60
  have hT := T.lt
  unfold maxLen at hps
  have Hp := hid hp
  clear hp
  go_enter Tryz.func97, Tryz.ntmps97
  go_wp2
  go_loopw [8] (fun i w' => ∃ k : Nat, k ≤ ps.length ∧ i = .int .i64 k ∧ Has w.heap.size (ps.take k).flatten w' ∧ But w.heap.size (w.alloc (Obj.cells (hcells z0 r0 0).toArray 176)) w') (fun i _ => ps.length - (intOf i).toNat)
  case atStart => exact ⟨0, by omega, rfl, ⟨z0, r0, Sha.HS.none, heap_alloc_new w _⟩, But.refl _ _⟩
  case round =>
    obtain ⟨k, hk, rfl, hh, hbut⟩ := hrel
    have hbl : Below w.heap.size w wr := ((Below.refl _ _).alloc (Nat.le_refl _) _).trans (hbut.below (Nat.le_refl _) (by rw [size_alloc]; omega))
    have T2 := T.below hbl hT
    by_cases hlt : k < ps.length
    · have hlt' : (k : Int) < (ps.length : Int) := by omega
      have cp : wr.cell? ⟨g, o + k, none⟩ = some (sv ps[k]) := (hbl.cell (p := ⟨g, o + k, none⟩) hg).trans (Hp.out k _ (List.getElem?_eq_getElem hlt))
      have hpl := total_take ps k hlt
      have tf := hid (take_flatten ps k hlt)
      generalize ps[k] = p at *
      generalize (ps.take k).flatten = t at *
      go_wp2_with (go_at_call 129; refine (write_sv w.heap.size t p (by omega) _ T2 (by omega) hh).mono ?_; rintro e w4 ⟨rfl, hh4, hw4⟩)
      exact ⟨⟨k + 1, by omega, by go_num, by rw [tf.out]; exact hh4, hbut.trans hw4⟩, by simp [intOf]; omega⟩
    · obtain rfl : k = ps.length := by omega
      go_wp2_with (go_at_call 130; refine (hsum_any w.heap.size (ps.take ps.length).flatten (by rw [List.take_length]; exact hlen) _ T2 hh).mono ?_; rintro e w5 ⟨rfl, hw5⟩)
      go_ret
      refine ⟨by rw [← List.take_length (l := ps)]; rfl, ?_⟩
      exact hbl.trans (hw5.mono hbl.size)
end Go.Proofs.YtappjeepajjioaaGreatDoor

namespace Go.Proofs.YtappjeepajjioaaGreatDoor
open Go.RowKit



set_option maxRecDepth 100000 in
set_option maxHeartbeats 400000 in
theorem empty_any (w : World) (T : Tabs w) :
    Calls Tryz.prog 51 #[] w fun e w' => e = .returned (sv (Sha.sha [])) ∧ Below w.heap.size w w' := by
  go_enter Tryz.func51, Tryz.ntmps51
  go_wp2_with (go_at_call 97; refine (sum_none _ T).mono ?_; rintro e w5 ⟨rfl, hw5⟩)
  go_ret
  exact ⟨rfl, hw5⟩

theorem sv_eta (s : ByteArray) : Value.string s = sv s.data.toList := rfl
theorem texts2 (w : World) (a b : List UInt8) (t : TypeId) : Texts (w.alloc (.cells #[sv a, sv b] t)) w.heap.size 0 [a, b] := fun j p h => by
  rw [cell_of_row _ _ _ _ _ _ (heap_alloc_new w _)]
  match j, h with
  | 0, h => obtain rfl := Option.some.inj h; rfl
  | 1, h => obtain rfl := Option.some.inj h; rfl
theorem texts3 (w : World) (a b c : List UInt8) (t : TypeId) : Texts (w.alloc (.cells #[sv a, sv b, sv c] t)) w.heap.size 0 [a, b, c] := fun j p h => by
  rw [cell_of_row _ _ _ _ _ _ (heap_alloc_new w _)]
  match j, h with
  | 0, h => obtain rfl := Option.some.inj h; rfl
  | 1, h => obtain rfl := Option.some.inj h; rfl
  | 2, h => obtain rfl := Option.some.inj h; rfl


set_option maxRecDepth 100000 in
set_option maxHeartbeats 400000 in
theorem node_ok (l r : ByteArray) (hl : l.size = 32) (hr : r.size = 32) (w : World) (T : Tabs w) :
    Calls Tryz.prog 103 #[.string l, .string r] w fun e w' => e = .returned (.tuple #[sv (Sha.sha (1 :: (l.data.toList ++ r.data.toList))), .int .i64 0]) ∧ Below w.heap.size w w' := by
  have hT := T.lt
  go_enter Tryz.func103, Tryz.ntmps103
  go_wp2_with (go_at_call 97; go_must (refine (sum_any w.heap.size 0 3 [[1], l.data.toList, r.data.toList] (by simp [total, hl, hr]) (by simp [maxLen]) _ (T.below ((Below.refl _ _).alloc (Nat.le_refl _) _) hT) (by rw [size_alloc]; omega) (texts3 w [1] l.data.toList r.data.toList _)).mono ?_); rintro e w5 ⟨rfl, hw5⟩)
  go_ret2
  refine ⟨by simp, ?_⟩
  exact ((Below.refl _ _).alloc (Nat.le_refl _) _).trans (hw5.mono (by rw [size_alloc]; omega))
set_option maxRecDepth 100000 in
set_option maxHeartbeats 400000 in
theorem node_bad1 (l r : ByteArray) (hl : ¬ l.size = 32) (w : World) :
    Calls Tryz.prog 103 #[.string l, .string r] w fun e w' => e = .returned (.tuple #[sv [], .int .i64 12]) ∧ w' = w := by
  have h1 : ((l.size : Int) != 32) = true := by simp; omega
  go_enter Tryz.func103, Tryz.ntmps103
  go_wp2
  go_ret2
  exact ⟨rfl, rfl⟩
set_option maxRecDepth 100000 in
set_option maxHeartbeats 400000 in
theorem node_bad2 (l r : ByteArray) (hl : l.size = 32) (hr : ¬ r.size = 32) (w : World) :
    Calls Tryz.prog 103 #[.string l, .string r] w fun e w' => e = .returned (.tuple #[sv [], .int .i64 12]) ∧ w' = w := by
  have h1 : ((r.size : Int) != 32) = true := by simp; omega
  go_enter Tryz.func103, Tryz.ntmps103
  go_wp2
  go_ret2
  exact ⟨rfl, rfl⟩
/-- D3 -/
def nodeOf (l r : List UInt8) : List UInt8 × Int := if l.length = 32 ∧ r.length = 32 then (Sha.sha (1 :: (l ++ r)), 0) else ([], 12)
theorem node_any (l r : ByteArray) (w : World) (T : Tabs w) :
    Calls Tryz.prog 103 #[.string l, .string r] w fun e w' => e = .returned (.tuple #[sv (nodeOf l.data.toList r.data.toList).1, .int .i64 (nodeOf l.data.toList r.data.toList).2]) ∧ Below w.heap.size w w' := by
  unfold nodeOf
  rw [data_length, data_length]
  by_cases hl : l.size = 32
  · by_cases hr : r.size = 32
    · rw [if_pos ⟨hl, hr⟩]; exact node_ok l r hl hr w T
    · rw [if_neg (fun h => hr h.2)]
      refine (node_bad2 l r hl hr w).mono ?_
      rintro e w' ⟨rfl, rfl⟩
      exact ⟨rfl, Below.refl _ _⟩
  · rw [if_neg (fun h => hl h.1)]
    refine (node_bad1 l r hl w).mono ?_
    rintro e w' ⟨rfl, rfl⟩
    exact ⟨rfl, Below.refl _ _⟩
end Go.Proofs.YtappjeepajjioaaGreatDoor

namespace Go.Proofs.YtappjeepajjioaaGreatDoor
open Go.RowKit

set_option maxHeartbeats 400000 in
theorem rror_any (x : Nat) (n : Int) (hx : x < 4294967296) (h1 : 1 ≤ n) (h2 : n ≤ 31) (w : World) :
    Calls Tryz.prog 115 #[.int .i64 (x : Int), .int .i64 n] w fun e w' => e = .returned (.int .i64 (Sha.ror n.toNat x : Nat)) ∧ ∃ nq, w' = w.drewN nq := by
  obtain ⟨n, rfl⟩ := Int.eq_ofNat_of_zero_le (show 0 ≤ n by omega)
  rw [Int.toNat_natCast]
  have HR := hid (Sha.rror_walk x n hx (by omega))
  obtain ⟨k, hk⟩ : ∃ k : Nat, k = 32 - n := ⟨_, rfl⟩
  rw [← hk] at HR
  have e1 : (32 : Int) - (n : Int) = (k : Int) := by omega
  have hk2 : (k : Int) ≤ 31 := by omega
  have hw : IntKind.i64.wrap ((x : Int) * 2 ^ k) = (x : Int) * 2 ^ k := by
    have e2 : (x : Int) * 2 ^ k = ((x * 2 ^ k : Nat) : Int) := by rw [Int.natCast_mul, Int.natCast_pow]; rfl
    rw [e2]; exact Sha.i64_small _ (Sha.mul_pow_lt x k hx (by omega))
  clear hk
  go_enter Tryz.func115, Tryz.ntmps115
  go_wp2
  go_quiet (fail)
  go_wp2
  go_ret
  exact ⟨ret_int HR.out, ⟨_, rfl⟩⟩

/-- numbers as ints -/
def nv (l : List Nat) : List Value := l.map fun n => .int .i64 ((n : Nat) : Int)
theorem nv_mem {l : List Nat} {v : Value} (h : v ∈ nv l) : v.oneCell' = true := by
  simp only [nv, List.mem_map] at h
  obtain ⟨n, _, rfl⟩ := h
  rfl
theorem nv_one (l : List Nat) : (nv l).toArray.all (·.oneCell') = true := oneCell_of fun _ h => nv_mem h
@[simp] theorem nv_length (l : List Nat) : (nv l).length = l.length := by simp [nv]
theorem nv_cell {l : List Nat} {w' : World} {g : Nat} {t : TypeId} (h : w'.heap[g]? = some (.cells (nv l).toArray t (0, 0))) (j : Nat) (hj : j < l.length) :
    w'.cell? ⟨g, j, none⟩ = some (.int .i64 ((l.getD j 0 : Nat) : Int)) := by
  rw [cell_of_row w' g j _ t _ h]
  simp [nv, hj]
theorem info64n : (Tryz.prog.info? 161).map (·.size) = some 64 := by kernel_rfl
theorem info8n : (Tryz.prog.info? 121).map (·.size) = some 8 := by kernel_rfl
theorem size8n {l : List Nat} (h : l.length = 8) : (Tryz.prog.info? 121).map (·.size) = some (nv l).toArray.size := by rw [info8n, List.size_toArray, nv_length, h]
theorem size64n {l : List Nat} (h : l.length = 64) : (Tryz.prog.info? 161).map (·.size) = some (nv l).toArray.size := by rw [info64n, List.size_toArray, nv_length, h]
theorem kTab_length : Sha.kTab.length = 64 := by decide +kernel

set_option maxRecDepth 100000 in
set_option maxHeartbeats 400000 in
theorem begins_any (w : World) :
    Calls Tryz.prog 81 #[] w fun e w' => e = .returned (.agg (nv Sha.iv.l).toArray) ∧ Below w.heap.size w w' := by
  go_enter Tryz.func81, Tryz.ntmps81
  go_wp2_with (with_reducible show wpList _ _ _ (Oper.mk _ (Op.store _ _ _) _ _ _ _ :: _) _ _; go_must (refine wpList_store_row rfl 121 _ _ rfl w.heap.size (nv Sha.iv.l).toArray rfl rfl 121 _ (heap_alloc_new w _) (size8n rfl) rfl (nv_one _) ?_))
  refine bodyPost_ret (v := .agg (nv Sha.iv.l).toArray) (results_cell_row rfl _ _ w.heap.size 121 _ (0, 0) _ rfl (setRow_heap _ _ _ _ _ _ (heap_alloc_new w _)) Tryz.underlying121 rfl (size8n rfl)) rfl ⟨rfl, ?_⟩
  exact Below.setRow ((Below.refl _ _).alloc (Nat.le_refl _) _) (Nat.le_refl _) _

set_option maxRecDepth 100000 in
set_option maxHeartbeats 1000000 in
theorem rounds_any (w : World) :
    Calls Tryz.prog 116 #[] w fun e w' => e = .returned (.agg (nv Sha.kTab).toArray) ∧ Below w.heap.size w w' := by
  go_enter Tryz.func116, Tryz.ntmps116
  go_wp2_with (first
    | (with_reducible show wpList _ _ _ (Oper.mk _ (Op.build _ _) _ _ _ _ :: _) _ _; go_must (refine wpList_build rfl 161 _ rfl (by kernel_rfl) ?_))
    | (with_reducible show wpList _ _ _ (Oper.mk _ (Op.store _ _ _) _ _ _ _ :: _) _ _; go_must (refine wpList_store_row rfl 161 _ _ rfl w.heap.size (nv Sha.kTab).toArray rfl (by kernel_rfl) 161 _ (heap_alloc_new w _) (size64n kTab_length) (by kernel_rfl) (nv_one _) ?_)))
  refine bodyPost_ret (v := .agg (nv Sha.kTab).toArray) (results_cell_row rfl _ _ w.heap.size 161 _ (0, 0) _ rfl (setRow_heap _ _ _ _ _ _ (heap_alloc_new w _)) Tryz.underlying161 rfl (size64n kTab_length)) rfl ⟨rfl, ?_⟩
  exact Below.setRow ((Below.refl _ _).alloc (Nat.le_refl _) _) (Nat.le_refl _) _
end Go.Proofs.YtappjeepajjioaaGreatDoor

namespace Go.Proofs.YtappjeepajjioaaGreatDoor
open Go.RowKit

def bigTo (n m k : Nat) : List UInt8 := List.replicate (m - k) 0 ++ Sha.be n k
theorem bigTo_set (n m k : Nat) (hk : k < m) : (bv (bigTo n m k)).toArray.setIfInBounds (m - 1 - k) (.int .u8 ((UInt8.ofNat (n / 256 ^ k)).toNat : Int)) = (bv (bigTo n m (k + 1))).toArray := by
  have e : bigTo n m k = List.replicate (m - 1 - k) 0 ++ 0 :: Sha.be n k := by
    rw [bigTo, show m - k = m - 1 - k + 1 from by omega, List.replicate_succ']; simp
  have g := bv_setAt (List.replicate (m - 1 - k) 0) 0 (UInt8.ofNat (n / 256 ^ k)) (Sha.be n k)
  rw [List.length_replicate] at g
  rw [e, g, bigTo, show m - (k + 1) = m - 1 - k from by omega]
  rfl
theorem big_walk (n k : Nat) : (n : Int) / 2 ^ (8 * k) % 256 = (((UInt8.ofNat (n / 256 ^ k)).toNat : Nat) : Int) := by
  have e : (n : Int) / 2 ^ (8 * k) = ((n / 256 ^ k : Nat) : Int) := by
    rw [Int.natCast_ediv, Int.natCast_pow]
    congr 1
    rw [show (((256 : Nat) : Int)) = 2 ^ 8 from rfl, ← Int.pow_mul]
  rw [e]
  simp [UInt8.toNat_ofNat']

set_option maxRecDepth 100000 in
set_option maxHeartbeats 400000 in
theorem big_gen (n m : Nat) (hm : m ≤ 8) (w : World)
    (hmk : ∀ w, (Instr.makeSlice 64 (.int .i64 (m : Int)) (.int .i64 (m : Int))).run Tryz.prog w = .ok (.slice (some ⟨w.heap.size, 0, none⟩) m m) (w.alloc (.cells (bv (List.replicate m 0)).toArray 5))) :
    Calls Tryz.prog 83 #[.int .i64 (n : Int), .int .i64 (m : Int)] w fun e w' => e = .returned (sv (Sha.be n m)) ∧ Below w.heap.size w w' := by
  have hm' : (m : Int) ≤ 8 := by omega
  go_enter Tryz.func83, Tryz.ntmps83
  go_wp2
  go_loopw [6] (fun i w' => ∃ k : Nat, k ≤ m ∧ i = .int .i64 k ∧ w'.heap[w.heap.size]? = some (.cells (bv (bigTo n m k)).toArray 5 (0, 0)) ∧ Below w.heap.size w w') (fun i _ => m - (intOf i).toNat)
  case atStart => exact ⟨0, by omega, rfl, by rw [heap_alloc_new]; simp [bigTo, Sha.be], (Below.refl _ _).alloc (Nat.le_refl _) _⟩
  case round =>
    obtain ⟨k, hk, rfl, b0, hb⟩ := hrel
    by_cases hlt : k < m
    · have b1 : (k : Int) < (m : Int) := by omega
      have b2 : (0 : Int) ≤ (m : Int) - 1 - (k : Int) := by omega
      have b3 : (m : Int) - 1 - (k : Int) < (m : Int) := by omega
      have t1 : ((m : Int) - 1 - (k : Int)).toNat = m - 1 - k := by omega
      obtain ⟨y, _, _, c4⟩ := bv_cell b0 (m - 1 - k) (by simp [bigTo, Sha.be_length]; omega)
      have f4 : wr.frozen? ⟨w.heap.size, m - 1 - k, none⟩ = false := frozen_of_row _ _ _ _ _ b0
      go_wp2
      refine ⟨⟨k + 1, by omega, by go_num, ?_, hb.setCell (Nat.le_refl _) _⟩, by simp [intOf]; omega⟩
      rw [big_walk, heap_setCell_same _ _ _ _ _ _ b0, bigTo_set n m k hlt]
    · obtain rfl : k = m := by omega
      have b1 : wr.heap[w.heap.size]? = some (.cells (bv (Sha.be n k)).toArray 5 (0, 0)) := by rw [b0, bigTo, Nat.sub_self]; rfl
      have hcv := run_conv_bytes (P := Tryz.prog) wr 64 9 5 w.heap.size 0 k k (Sha.be n k) (Sha.be_length n k) Tryz.underlying64 Tryz.underlying5 Tryz.underlying9 (rangeAt_of_list b1 (fun j v hv => by rw [Nat.zero_add]; exact hv))
      go_wp2
      go_ret
      exact ⟨rfl, hb⟩
theorem big8 (n : Nat) (N : Int) (hN : N = (n : Int)) (w : World) :
    Calls Tryz.prog 83 #[.int .i64 N, .int .i64 8] w fun e w' => e = .returned (sv (Sha.be n 8)) ∧ Below w.heap.size w w' :=
  hN ▸ big_gen n 8 (by omega) w (fun _ => by kernel_rfl)
theorem big4 (n : Nat) (N : Int) (hN : N = (n : Int)) (w : World) :
    Calls Tryz.prog 83 #[.int .i64 N, .int .i64 4] w fun e w' => e = .returned (sv (Sha.be n 4)) ∧ Below w.heap.size w w' :=
  hN ▸ big_gen n 4 (by omega) w (fun _ => by kernel_rfl)
end Go.Proofs.YtappjeepajjioaaGreatDoor

namespace Go.Proofs.YtappjeepajjioaaGreatDoor
open Go.RowKit

/-- The slice value v, of elements of one cell each, owns the cells cs in a row of its own from block 'base' on; its spare cells may be written. -/
def Own (w : World) (base : Nat) (v : Value) (cs : List Value) : Prop :=
  (v = .slice none 0 0 ∧ cs = []) ∨
  ∃ g cap, v = .slice (some ⟨g, 0, none⟩) cs.length cap ∧ base ≤ g ∧ cs.length ≤ cap ∧ cap ≤ maxLen ∧ w.rangeAt g 0 cs ∧ w.there g 0 cap ∧ g < w.heap.size

theorem Own.nil (w : World) (base : Nat) : Own w base (.slice none 0 0) [] := .inl ⟨rfl, rfl⟩

theorem rangeAt_heap {w w' : World} {b o : Nat} {cs : List Value} (h : w.rangeAt b o cs) (hb : w'.heap[b]? = w.heap[b]?) : w'.rangeAt b o cs := fun j v hv => by
  rw [World.cell?_of_block (w := w) hb]; exact h j v hv
theorem there_heap {w w' : World} {b o n : Nat} (h : w.there b o n) (hb : w'.heap[b]? = w.heap[b]?) : w'.there b o n := fun j hj => by
  rw [World.cell?_of_block (w := w) hb, World.frozen?_of_block (w := w) hb]; exact h j hj
theorem Own.kept {w w' : World} {base : Nat} {v : Value} {cs : List Value} (h : Own w base v cs) (hs : w.heap.size ≤ w'.heap.size) (hb : ∀ g, v.ownBlock = some g → w'.heap[g]? = w.heap[g]?) : Own w' base v cs := by
  rcases h with h | ⟨g, cap, rfl, h1, h2, h3, h4, h5, h6⟩
  · exact .inl h
  · exact .inr ⟨g, cap, rfl, h1, h2, h3, rangeAt_heap h4 (hb g rfl), there_heap h5 (hb g rfl), by omega⟩
theorem Own.below {w w' : World} {base B : Nat} {v : Value} {cs : List Value} (h : Own w base v cs) (hb : Below B w w') (hB : w.heap.size ≤ B) : Own w' base v cs := by
  refine h.kept hb.size fun g hg => hb.block g ?_
  rcases h with ⟨rfl, _⟩ | ⟨g', cap, rfl, h1, h2, h3, h4, h5, h6⟩
  · cases hg
  · cases hg; show g' < B; omega
theorem Own.alloc {w : World} {base : Nat} {v : Value} {cs : List Value} (h : Own w base v cs) (o : Obj) : Own (w.alloc o) base v cs :=
  h.below (B := w.heap.size) ((Below.refl _ _).alloc (Nat.le_refl _) _) (Nat.le_refl _)
theorem Own.drew {w : World} {base : Nat} {v : Value} {cs : List Value} (h : Own w base v cs) : Own w.drew base v cs := h
theorem Own.drewN {w : World} {base : Nat} {v : Value} {cs : List Value} (h : Own w base v cs) (n : Nat) : Own (w.drewN n) base v cs := h
theorem Own.but {w w' : World} {base b : Nat} {v : Value} {cs : List Value} (h : Own w base v cs) (hb : But b w w') (hne : v.ownBlock ≠ some b) : Own w' base v cs := by
  refine h.kept hb.size fun g hg => hb.block g ?_ (fun e => hne (by rw [hg, e]))
  rcases h with ⟨rfl, _⟩ | ⟨g', cap, rfl, h1, h2, h3, h4, h5, h6⟩
  · cases hg
  · cases hg; exact h6
theorem Own.mono {w : World} {base base' : Nat} {v : Value} {cs : List Value} (h : Own w base v cs) (hb : base' ≤ base) : Own w base' v cs := by
  rcases h with h | ⟨g, cap, rfl, h1, h⟩
  · exact .inl h
  · exact .inr ⟨g, cap, rfl, by omega, h⟩
theorem Own.ge {w : World} {base : Nat} {v : Value} {cs : List Value} (h : Own w base v cs) : ∀ k, v.ownBlock = some k → base ≤ k := by
  rcases h with ⟨rfl, _⟩ | ⟨g, cap, rfl, h1, _⟩
  · intro k hk; cases hk
  · intro k hk; cases hk; exact h1

/-- APPEND onto what is owned, from whatever source. -/
theorem run_append_O {P : Program} (w : World) (base : Nat) (t tx ty e : TypeId) (i : TypeInfo) (z : Value) (ht : P.underlying t = some (.slice e)) (hi : P.info? e = some i) (hz : i.zero = some z)
    (hsize : i.size = 1) (hzs : z.cells.size = 1) (v : Value) (cs : List Value) (hown : Own w base v cs) (x : Value) (n : Nat) (news : List Value) (hs : Src P 1 tx x n news w)
    (hbytes : (cs.length + n) * i.bytes ≤ 140737488355328) (h63 : cs.length + n ≤ maxLen) (hbase : base ≤ w.heap.size) (hpos : v = .slice none 0 0 → 0 < n) :
    ∃ v' w', (Builtin.append_ #[t, tx] ty #[v, x]).run P w = .ok v' w' ∧ Own w' base v' (cs ++ news) ∧ w.grownBy w' v.ownBlock ∧ (v'.ownBlock = v.ownBlock ∨ v'.ownBlock = some w.heap.size) := by
  have hn : news.length = n := by simpa using hs.newsLen
  have h63' : cs.length + n ≤ 9223372036854775807 := by simp only [maxLen] at h63; omega
  -- the arm that grows
  have grow : ∀ (b : Option Addr) (old : Nat), old < cs.length + n → v = .slice b cs.length old → (Builtin.firstCells 1 cs.length (.slice b cs.length old)).run P w.drew = .ok cs.toArray w.drew →
      ∃ v' w', (Builtin.append_ #[t, tx] ty #[v, x]).run P w = .ok v' w' ∧ Own w' base v' (cs ++ news) ∧ w.grownBy w' v.ownBlock ∧ (v'.ownBlock = v.ownBlock ∨ v'.ownBlock = some w.heap.size) := by
    intro b old ho hv hold
    have hr := run_append_grow_src (P := P) w t tx ty e i z ht hi hz b cs.length old cs (by rw [hsize]; exact hold) x n news (by rw [hsize]; exact hs) ho (by omega) (growslice_fits ho hbytes)
    have hge := grownCap_ge w (cs.length + n) old e
    have hcm : grownCap w (cs.length + n) old e ≤ maxLen := grownCap_le_maxLen w (cs.length + n) old e h63
    have hnew : (w.drew.alloc (.cells ((cs ++ news).toArray ++ Builtin.zeroCells z.cells (grownCap w (cs.length + n) old e - (cs.length + n))) e)).heap[w.heap.size]? = some (.cells ((cs ++ news).toArray ++ Builtin.zeroCells z.cells (grownCap w (cs.length + n) old e - (cs.length + n))) e (0, 0)) := heap_alloc_new w.drew _
    refine ⟨.slice (some ⟨w.heap.size, 0, none⟩) (cs.length + n) (grownCap w (cs.length + n) old e), w.drew.alloc (.cells ((cs ++ news).toArray ++ Builtin.zeroCells z.cells (grownCap w (cs.length + n) old e - (cs.length + n))) e), by rw [hv]; exact hr, .inr ⟨w.heap.size, grownCap w (cs.length + n) old e, by rw [List.length_append, hn], hbase, by rw [List.length_append, hn]; exact hge, hcm, ?_, ?_, ?_⟩, ⟨rfl, rfl, rfl, by rw [size_alloc]; exact Nat.le_succ w.heap.size, fun k hk _ => Below.heap_alloc w.drew _ k hk⟩, .inr rfl⟩
    · intro j u hj
      rw [cell_of_row _ _ _ _ _ _ hnew, Nat.zero_add]
      have hj' : j < (cs ++ news).length := (List.getElem?_eq_some_iff.1 hj).1
      rw [Array.getElem?_append_left (by simpa using hj')]
      simpa using hj
    · refine there_of_row hnew 0 _ ?_
      simp only [Array.size_append, List.size_toArray, size_zeroCells, hzs, List.length_append, hn]
      omega
    · rw [size_alloc]; exact Nat.lt_succ_self _
  rcases hown with ⟨rfl, rfl⟩ | ⟨g, cap, rfl, h1, h2, h3, h4, h5, h6⟩
  · exact grow none 0 (by have := hpos rfl; simp; omega) rfl (run_firstCells_none w.drew 1 0 0 0)
  · by_cases hroom : cs.length + n ≤ cap
    · have hr := run_append_room_src (P := P) w t tx ty e i ht hi g 0 cs.length cap x n news (by rw [hsize]; exact hs) hroom
        (fun j hj => by rw [hsize, Nat.mul_one]; exact by have := (h5 (cs.length + j) (by omega)).1; simpa [Nat.add_assoc] using this)
        (fun j hj => by rw [hsize, Nat.mul_one]; exact by have := (h5 (cs.length + j) (by omega)).2; simpa [Nat.add_assoc] using this)
      rw [hsize, Nat.mul_one, Nat.zero_add] at hr
      have ht' : w.there g cs.length news.length := fun j hj => by have := h5 (cs.length + j) (by omega); simpa using this
      refine ⟨_, _, hr, .inr ⟨g, cap, by rw [List.length_append, hn], h1, by rw [List.length_append, hn]; exact hroom, h3, ?_, World.there_setCells h5 _ _ _, ?_⟩, ?_, .inl rfl⟩
      · intro j u hj
        by_cases hjl : j < cs.length
        · rw [List.getElem?_append_left hjl] at hj
          exact World.rangeAt_setCells_apart h4 g cs.length news (.inr (.inl (by omega))) j u hj
        · rw [List.getElem?_append_right (by omega)] at hj
          have := World.rangeAt_setCells_same w g cs.length news ht' (j - cs.length) u hj
          rwa [show cs.length + (j - cs.length) = 0 + j from by omega] at this
      · have := (But.setCells news cs.length (But.refl g w)).size; omega
      · have hb := But.setCells news cs.length (But.refl g w)
        exact ⟨hb.os, hb.tape, hb.output, hb.size, fun k hk hne => hb.block k hk (fun e => hne (by rw [e]; rfl))⟩
    · refine grow (some ⟨g, 0, none⟩) cap (by omega) rfl ?_
      exact run_firstCells_some w.drew 1 cs.length ⟨g, 0, none⟩ cs.length cap cs (by simp) (fun j u hj => by rw [Addr.add_mid]; exact h4 j u hj)
end Go.Proofs.YtappjeepajjioaaGreatDoor

namespace Go.Proofs.YtappjeepajjioaaGreatDoor
open Go.RowKit

theorem info5' : (Tryz.prog.info? 5).map (fun i => (i.zero, i.size, i.bytes)) = some (some (.int .u8 0), 1, 1) := by kernel_rfl
/-- bytes that lie in a row of the call's own -/
abbrev OwnB (w : World) (base : Nat) (v : Value) (bs : List UInt8) : Prop := Own w base v (bv bs)

theorem Own.shape {w : World} {base : Nat} {v : Value} {cs : List Value} (h : Own w base v cs) : ∃ a cap, v = .slice a cs.length cap := by
  rcases h with ⟨rfl, rfl⟩ | ⟨g, cap, rfl, _⟩
  · exact ⟨none, 0, rfl⟩
  · exact ⟨some ⟨g, 0, none⟩, cap, rfl⟩

/-- append of new bytes that lie in a block of their own ('append(out, x, y)') -/
theorem append_new (w : World) (base : Nat) (v : Value) (bs ns : List UInt8) (m : Nat) (C : Array Value) (hC : C = (bv ns).toArray) (hm : ns.length = m) (hown : OwnB w base v bs)
    (hlen : bs.length + m ≤ 140737488355328) (hbase : base ≤ w.heap.size) (hpos : 0 < m) :
    ∃ v' w', (Builtin.append_ #[64, 64] 64 #[v, .slice (some ⟨w.heap.size, 0, none⟩) m m]).run Tryz.prog (w.alloc (.cells C 5)) = .ok v' w' ∧ OwnB w' base v' (bs ++ ns) ∧
      w.grownBy w' v.ownBlock ∧ (v'.ownBlock = v.ownBlock ∨ v'.ownBlock = some (w.heap.size + 1)) := by
  subst hC
  obtain ⟨i0, hi, hz0, hz1, hz2⟩ := info_parts info5'
  have hsrc : Src Tryz.prog 1 64 (.slice (some ⟨w.heap.size, 0, none⟩) m m) m (bv ns) (w.alloc (.cells (bv ns).toArray 5)) :=
    Src.ofSlice _ Tryz.underlying64 ⟨w.heap.size, 0, none⟩ m m (bv ns) (by simp [hm]) (fun j u hj => by
      rw [Addr.add_mid, cell_of_row _ _ _ _ _ _ (heap_alloc_new w _), Nat.zero_add]; simpa using hj) (fun u hu => bv_mem hu)
  obtain ⟨v', w', h1, h2, h3, h4⟩ := run_append_O (P := Tryz.prog) (w.alloc (.cells (bv ns).toArray 5)) base 64 64 64 5 i0 (.int .u8 0) Tryz.underlying64 hi hz0 hz1 rfl v (bv bs) (hown.alloc _) _ m (bv ns) hsrc
    (by rw [bv_length, hz2]; omega) (by rw [bv_length, maxLen]; omega) (by rw [size_alloc]; omega) (fun _ => hpos)
  refine ⟨v', w', h1, by rw [OwnB, bv_append]; exact h2, ⟨h3.os, h3.tape, h3.output, by have := h3.size; rw [size_alloc] at this; omega, fun k hk hne => (h3.block k (by rw [size_alloc]; omega) hne).trans (Below.heap_alloc w _ k hk)⟩, by rw [size_alloc] at h4; exact h4⟩
/-- append of a string's bytes ('append(out, s...)') -/
theorem append_str (w : World) (base : Nat) (v : Value) (bs : List UInt8) (s : ByteArray) (hown : OwnB w base v bs)
    (hlen : bs.length + s.size ≤ 140737488355328) (hbase : base ≤ w.heap.size) (hpos : v = .slice none 0 0 → 0 < s.size) :
    ∃ v' w', (Builtin.append_ #[64, 9] 64 #[v, .string s]).run Tryz.prog w = .ok v' w' ∧ OwnB w' base v' (bs ++ s.data.toList) ∧
      w.grownBy w' v.ownBlock ∧ (v'.ownBlock = v.ownBlock ∨ v'.ownBlock = some w.heap.size) := by
  obtain ⟨i0, hi, hz0, hz1, hz2⟩ := info_parts info5'
  obtain ⟨v', w', h1, h2, h3, h4⟩ := run_append_O (P := Tryz.prog) w base 64 9 64 5 i0 (.int .u8 0) Tryz.underlying64 hi hz0 hz1 rfl v (bv bs) hown _ s.size (byteCells s) (Src.ofString w Tryz.underlying9 s)
    (by rw [bv_length, hz2]; omega) (by rw [bv_length, maxLen]; omega) hbase hpos
  exact ⟨v', w', h1, by rw [OwnB, bv_append]; exact h2, h3, h4⟩
theorem Below.ofGrown {w w' : World} {v : Value} {base : Nat} (h : w.grownBy w' v.ownBlock) (hv : ∀ k, v.ownBlock = some k → base ≤ k) (hb : base ≤ w.heap.size) : Below base w w' :=
  (Below.refl base w).grown h hb hv

/-- s + t -/
theorem add_sv (P : Program) (t : TypeId) (a b : List UInt8) (h : a.length + b.length ≤ 9223372036854775807) (w : World) : (binOp .add t (sv a) (sv b)).run P w = .ok (sv (a ++ b)) w := by
  rw [sv, sv, binOp_string_add, run_string_add_sum w _ _ (by rw [sv_size, sv_size]; exact h), ByteArray.mk_append_mk]
  rfl
/-- []byte(s) -/
theorem conv_bytes (w : World) (s : ByteArray) (hs : s.size ≤ maxLen) :
    ∃ v' w', (convert 9 64 (.string s)).run Tryz.prog w = .ok v' w' ∧ OwnB w' w.heap.size v' s.data.toList ∧ Below w.heap.size w w' := by
  refine ⟨_, _, Lib.run_convert_string_bytes (P := Tryz.prog) w 9 64 5 s Tryz.underlying9 Tryz.underlying64 Tryz.underlying5, .inr ⟨w.heap.size, _, by rw [bv_length, data_length], Nat.le_refl _, ?_, ?_, ?_, ?_, ?_⟩, ?_⟩
  · rw [bv_length, data_length]; exact grownCap_ge w s.size 0 _
  · exact grownCap_le_maxLen w s.size 0 _ hs
  · intro j u hj
    have hj' : j < s.size := by have := (List.getElem?_eq_some_iff.1 hj).1; rwa [bv_length, data_length] at this
    rw [Nat.zero_add, Lib.bytesWorld_cell w _ s j hj', ← hj]
    have hd : j < s.data.toList.length := by rw [data_length]; exact hj'
    simp only [bv, List.getElem?_map, List.getD_eq_getElem?_getD, List.getElem?_eq_getElem hd, Option.getD_some, Option.map_some]
  · intro j hj
    have hn := Lib.bytesWorld_at_new w 5 s
    have hsz : (Lib.bytesCells w 5 s).size = grownCap w s.size 0 5 := by
      have := grownCap_ge w s.size 0 5
      have e : s.data.size = s.size := rfl
      simp only [Lib.bytesCells, Array.size_append, Array.size_map, Array.size_replicate]
      omega
    refine ⟨?_, ?_⟩
    · rw [Nat.zero_add, cell_of_row _ _ _ _ _ _ hn, Array.getElem?_eq_getElem (by omega)]; rfl
    · simp only [World.frozen?, hn, Nat.zero_add]
      simp; omega
  · rw [Lib.bytesWorld_size]; omega
  · exact ⟨rfl, rfl, rfl, by rw [Lib.bytesWorld_size]; omega, fun k hk => Lib.bytesWorld_at_old w _ s k hk⟩
/-- string(b) of what is owned -/
theorem conv_own {w : World} {base : Nat} {v : Value} {bs : List UInt8} (h : OwnB w base v bs) (hpos : v ≠ .slice none 0 0) : (convert 64 9 v).run Tryz.prog w = .ok (sv bs) w := by
  rcases h with ⟨rfl, _⟩ | ⟨g, cap, rfl, _, _, _, h4, _⟩
  · exact absurd rfl hpos
  · exact run_conv_bytes (P := Tryz.prog) w 64 9 5 g 0 (bv bs).length cap bs (by rw [bv_length]) Tryz.underlying64 Tryz.underlying5 Tryz.underlying9 h4
end Go.Proofs.YtappjeepajjioaaGreatDoor

namespace Go.Proofs.YtappjeepajjioaaGreatDoor
open Go.RowKit

def sliceLen : Value → Nat
  | .slice _ n _ => n
  | _ => 0

set_option maxRecDepth 100000 in
set_option maxHeartbeats 400000 in
theorem filled_any (s : ByteArray) (hs : s.size ≤ 140737488355000) (w : World) :
    Calls Tryz.prog 80 #[.string s] w fun e w' => e = .returned (sv (s.data.toList ++ Sha.filling s.size)) ∧ Below w.heap.size w w' := by
  obtain ⟨v0, w0, hc0, hown0, hb0⟩ := conv_bytes w s (by rw [maxLen]; omega)
  obtain ⟨a0, cap0, rfl⟩ := hown0.shape
  have hb0s := hb0.size
  obtain ⟨v1, w1, hc1, hown1, hg1, _⟩ := append_new w0 w.heap.size _ s.data.toList [128] 1 #[.int .u8 128] rfl rfl hown0 (by rw [data_length]; omega) hb0s (by omega)
  have hb1 : Below w.heap.size w w1 := hb0.trans (Below.ofGrown hg1 hown0.ge hb0s)
  rw [bv_length, data_length] at hc0 hc1
  obtain ⟨z, hz⟩ : ∃ z, z = (119 - s.size % 64) % 64 := ⟨_, rfl⟩
  have Hz := hid hz
  have Hown1 := hid hown1
  have Hb1 := hid hb1
  clear hz hown0 hown1 hb0 hb1 hg1 hb0s
  generalize hn : s.size = n at *
  have hs' : (n : Int) ≤ 140737488355000 := by omega
  go_enter Tryz.func80, Tryz.ntmps80
  go_wp2_with (at_builtin; go_must (refine Lib.wpList_append_run _ rfl _ _ 64 64 rfl _ _ rfl rfl _ _ hc1 ?_))
  have hz64 : z < 64 := by have := Hz.out; omega
  have e1 : (bv (s.data.toList ++ [128])).length = n + 1 := by simp [hn]
  obtain ⟨a1, cap1, hv1⟩ := Hown1.out.shape
  rw [e1] at hv1
  subst hv1
  clear e1
  go_loopw [4] (fun v w' => ∃ (k : Nat) (a : Option Addr) (cap : Nat), v = .slice a (n + 1 + k) cap ∧ k ≤ z ∧ OwnB w' w.heap.size (.slice a (n + 1 + k) cap) (s.data.toList ++ 128 :: List.replicate k 0) ∧ Below w.heap.size w w') (fun v _ => n + 1 + z - sliceLen v)
  case atStart =>
    exact ⟨0, a1, cap1, rfl, by omega, Hown1.out, Hb1.out⟩
  case round =>
    obtain ⟨k, a, cap, rfl, hk, hown, hb⟩ := hrel
    have Hown := hid hown
    have Hb := hid hb
    have hbs := hb.size
    by_cases hlt : k < z
    · have g1 : (((n + 1 + k : Nat) : Int) % 64 != 56) = true := by have := Hz.out; simp; omega
      obtain ⟨v2, w2, hc2, hown2, hg2, _⟩ := append_new wr w.heap.size _ _ [0] 1 #[.int .u8 0] rfl rfl hown (by simp; omega) hbs (by omega)
      have e2 : (s.data.toList ++ 128 :: List.replicate k 0) ++ [0] = s.data.toList ++ 128 :: List.replicate (k + 1) 0 := by rw [List.replicate_succ']; simp
      rw [e2] at hown2
      have e3 : (bv (s.data.toList ++ 128 :: List.replicate (k + 1) 0)).length = n + 1 + (k + 1) := by simp [hn]; omega
      obtain ⟨a2, cap2, hv2⟩ := hown2.shape
      rw [e3] at hv2
      subst hv2
      clear e2 e3
      have Hown2 := hid hown2
      have Hb2 := hid (hb.trans (Below.ofGrown hg2 hown.ge hbs))
      clear hown hb hown2 hg2
      go_wp2_with (at_builtin; go_must (refine Lib.wpList_append_run _ rfl _ _ 64 64 rfl _ _ rfl rfl _ _ hc2 ?_))
      exact ⟨⟨k + 1, a2, cap2, rfl, by omega, Hown2.out, Hb2.out⟩, by simp [sliceLen]; omega⟩
    · obtain rfl : k = z := by omega
      have g1 : (((n + 1 + k : Nat) : Int) % 64 != 56) = false := by have := Hz.out; simp; omega
      clear hb
      have hcv : (convert 64 9 (.slice a (n + 1 + k) cap)).run Tryz.prog wr.drew = .ok (sv (s.data.toList ++ 128 :: List.replicate k 0)) wr.drew := conv_own hown.drew (by intro e; injection e; omega)
      have hw8 : IntKind.i64.wrap (8 * (n : Int)) = 8 * (n : Int) := wrap_small _ (by omega) (by omega)
      clear hown
      have hadd := add_sv Tryz.prog 9 (s.data.toList ++ 128 :: List.replicate k 0) (Sha.be (8 * n) 8) (by simp [Sha.be_length]; omega)
      go_wp2
      go_region_with (go_at_call 83; refine (big8 (8 * n) _ (by omega) _).mono ?_; rintro e w5 ⟨rfl, hw5⟩; go_must (have hcv5 := conv_own (Hown.out.drew.below hw5 (Nat.le_refl _)) (by intro e; injection e; omega)))
      all_goals go_wp2
      all_goals go_ret
      all_goals refine ⟨?_, Hb.out.drew.trans (hw5.mono hbs)⟩
      all_goals show Ending.returned (sv _) = _
      all_goals rw [Sha.filling, ← Hz.out]
end Go.Proofs.YtappjeepajjioaaGreatDoor
