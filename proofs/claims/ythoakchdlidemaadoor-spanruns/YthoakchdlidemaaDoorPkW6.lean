import Derived.Test.YthoakchdlidemaaDoorPkW3
namespace Go.Proofs.YthoakchdlidemaaDoor
open Go.RowKit

def strLen : Value → Nat
  | .string s => s.size
  | _ => 0

/-- a hasher that has taken t lies in block b -/
def Has (b : Nat) (t : List UInt8) (w : World) : Prop :=
  ∃ st rest, Sha.HS t st rest ∧ w.heap[b]? = some (.cells (hcells st rest t.length).toArray 134 (0, 0))

theorem info5 : (Tryd.prog.info? 5).map (·.size) = some 1 := by kernel_rfl
theorem data_length (r : ByteArray) : r.data.toList.length = r.size := by rw [Array.length_toList]; rfl

/-- the copy of what fits of r into the block's rest -/
theorem copy_step (wr : World) (b n : Nat) (st : Sha.St) (rest : List UInt8) (r : ByteArray) (hl : rest.length = 64) (h0 : 0 < r.size)
    (hh : wr.heap[b]? = some (.cells (hcells st rest n).toArray 134 (0, 0))) :
    ∃ (c : Nat) (w2 : World), 1 ≤ c ∧ c ≤ r.size ∧ n % 64 + c ≤ 64 ∧ (n % 64 + c < 64 → c = r.size) ∧
      (Builtin.copy_ #[67, 9] 3 #[.slice (some ⟨b, 8 + n % 64, none⟩) (64 - n % 64) (64 - n % 64), .string r]).run Tryd.prog wr = .ok (.int .i64 (c : Int)) w2 ∧
      w2.heap[b]? = some (.cells (hcells st (Sha.over rest (n % 64) (r.data.toList.take c)) n).toArray 134 (0, 0)) ∧ But b wr w2 := by
  have hsz : (hcells st rest n).toArray.size = 73 := by rw [List.size_toArray, hcells_length hl]
  have e := run_copy_min (P := Tryd.prog) wr 67 9 3 5 b (8 + n % 64) (64 - n % 64) (64 - n % 64) r _ _ Tryd.underlying67 info5 hh (by rw [hsz]; omega)
  refine ⟨min r.size (64 - n % 64), _, by omega, by omega, by omega, by omega, e, ?_, (But.refl b wr).setRow _⟩
  rw [setRow_heap _ _ _ _ _ _ hh]
  refine congrArg (fun a => some (Obj.cells a 134 (0, 0))) ?_
  have h8 : (wv st.l).length = 8 := by simp [Sha.St.l]
  have hu : (r.data.toList.take (min r.size (64 - n % 64))).length = min r.size (64 - n % 64) := by rw [List.length_take, data_length]; omega
  generalize hU : r.data.toList.take (min r.size (64 - n % 64)) = u at hu ⊢
  have hm : n % 64 + min r.size (64 - n % 64) ≤ 64 := by omega
  generalize min r.size (64 - n % 64) = c at hu hm ⊢
  rw [hcells, hcells, Sha.over, bv_append, bv_append]
  rw [List.take_append, List.take_of_length_le (by omega), h8, show 8 + n % 64 - 8 = n % 64 from by omega, List.take_append_of_le_length (by simp; omega)]
  rw [List.drop_append, List.drop_eq_nil_of_le (by omega), h8, List.nil_append, show 8 + n % 64 + c - 8 = n % 64 + c from by omega, List.drop_append_of_le_length (by simp; omega)]
  simp only [bv, List.map_take, List.map_drop, List.append_assoc, hu]

theorem rangeAt_below {w w' : World} {B b o : Nat} {cs : List Value} (h : w.rangeAt b o cs) (hb : Below B w w') (hB : b < B) : w'.rangeAt b o cs := fun j v hv => by
  rw [hb.cell (p := ⟨b, o + j, none⟩) hB]; exact h j v hv
theorem there_below {w w' : World} {B b o n : Nat} (h : w.there b o n) (hb : Below B w w') (hB : b < B) : w'.there b o n := fun j hj => by
  rw [hb.cell (p := ⟨b, o + j, none⟩) hB, hb.frozen (p := ⟨b, o + j, none⟩) hB]; exact h j hj
theorem there_of_row {w : World} {b : Nat} {cs : Array Value} {t : TypeId} (h : w.heap[b]? = some (.cells cs t (0, 0))) (o n : Nat) (hn : o + n ≤ cs.size) : w.there b o n := fun j hj => by
  refine ⟨?_, frozen_of_row _ _ _ _ _ h⟩
  rw [cell_of_row w b (o + j) cs t _ h, Array.getElem?_eq_getElem (by omega)]; rfl

theorem hcells_setTaken {st : Sha.St} {rest : List UInt8} {n m : Nat} (h : rest.length = 64) : (hcells st rest n).toArray.setIfInBounds 72 (.int .i64 (m : Int)) = (hcells st rest m).toArray := by
  have e : hcells st rest n = (wv st.l ++ bv rest) ++ [.int .i64 (n : Int)] := by simp [hcells]
  have h72 : (wv st.l ++ bv rest).length = 72 := by simp [Sha.St.l, h]
  rw [e, ← h72]
  simp [hcells]
theorem But.setCell {b : Nat} {w w' : World} (h : But b w w') (o : Nat) (v : Value) : But b w (w'.setCell ⟨b, o, none⟩ v) :=
  ⟨h.os, h.tape, h.output, by simp [World.setCell]; exact h.size, fun k hk hb => (heap_setCell_other w' ⟨b, o, none⟩ k v hb).trans (h.block k hk hb)⟩
theorem heap_setTaken {w : World} {b : Nat} {st : Sha.St} {rest : List UInt8} {n : Nat} (h : rest.length = 64) (hh : w.heap[b]? = some (.cells (hcells st rest n).toArray 134 (0, 0))) (m : Nat) :
    (w.setCell ⟨b, 72, none⟩ (.int .i64 (m : Int))).heap[b]? = some (.cells (hcells st rest m).toArray 134 (0, 0)) := by
  rw [heap_setCell_same _ _ _ _ _ _ hh, hcells_setTaken h]
theorem heap_setCells (b : Nat) (t : TypeId) : ∀ (vs pre old post : List Value) (w : World), old.length = vs.length → w.heap[b]? = some (.cells (pre ++ old ++ post).toArray t (0, 0)) →
    (w.setCells b pre.length vs).heap[b]? = some (.cells (pre ++ vs ++ post).toArray t (0, 0))
  | [], pre, old, post, w, hl, h => by
    obtain rfl : old = [] := List.length_eq_zero_iff.1 hl
    simpa [World.setCells] using h
  | v :: r, pre, [], post, w, hl, h => by simp at hl
  | v :: r, pre, x :: old, post, w, hl, h => by
    rw [World.setCells]
    have h1 : (w.setCell ⟨b, pre.length, none⟩ v).heap[b]? = some (.cells ((pre ++ [v]) ++ old ++ post).toArray t (0, 0)) := by
      rw [heap_setCell_same _ _ _ _ _ _ h]
      simp
    have := heap_setCells b t r (pre ++ [v]) old post _ (by simpa using hl) h1
    simpa using this
theorem heap_setState {w : World} {b : Nat} {st : Sha.St} {rest : List UInt8} {n : Nat} (hh : w.heap[b]? = some (.cells (hcells st rest n).toArray 134 (0, 0))) (F : Sha.St) :
    (w.setCells b 0 (wv F.l)).heap[b]? = some (.cells (hcells F rest n).toArray 134 (0, 0)) := by
  have := heap_setCells b 134 (wv F.l) [] (wv st.l) (bv rest ++ [.int .i64 (n : Int)]) w (by simp [Sha.St.l]) (by simpa [hcells] using hh)
  simpa [hcells] using this
theorem But.setCells {b : Nat} {w : World} : ∀ (vs : List Value) (o : Nat) {w' : World}, But b w w' → But b w (w'.setCells b o vs)
  | [], _, _, h => h
  | v :: r, o, w', h => by rw [World.setCells]; exact But.setCells r (o + 1) (h.setCell o v)
theorem words_at (b n : Nat) (st st1 : Sha.St) (h1 : Hid ((if n < 64 then Sha.iv else st) = st1)) (rest : List UInt8) (hl : rest.length = 64) (w : World) (T : Tabs w)
    (hb : w.heap[b]? = some (.cells (hcells st rest n).toArray 134 (0, 0))) :
    Calls Tryd.prog 89 #[.pointer (some ⟨b, 0, none⟩)] w fun e w' => e = .returned (.agg (wv st1.l).toArray) ∧ Below w.heap.size w w' := by
  have := words_any b n st rest hl w T hb
  rwa [h1.out] at this
theorem store_state (P : Program) (b : Nat) (F : Sha.St) (w : World) (h : w.there b 0 8) : (storeCells ⟨b, 0, none⟩ (wv F.l)).run P w = .ok () (w.setCells b 0 (wv F.l)) := by
  have h8 : (wv F.l).length = 8 := by simp [Sha.St.l]
  have := run_storeCells_cells (P := P) b 0 (wv F.l) 0 w (fun j hj => by simpa using (h j (by omega)).1) (fun j hj => by simpa using (h j (by omega)).2) (fun v hv => wv_mem hv)
  simpa using this
theorem fold_at (s F : Sha.St) (hs : s.ok) (bl : List UInt8) (hF : Hid (Sha.fold s bl = F)) (hb : bl.length = 64) (w : World) (T : Tabs w) :
    Calls Tryd.prog 88 #[.agg (wv s.l).toArray, .agg (bv bl).toArray] w fun e w' => e = .returned (.agg (wv F.l).toArray) ∧ Below w.heap.size w w' := by
  have := fold_any s hs bl hb w T
  rwa [hF.out] at this
theorem drop_rest (r : ByteArray) (c : Nat) : (r.extract c r.size).data.toList = r.data.toList.drop c := by
  rw [Lib.extract_data]
  rw [List.take_of_length_le (by simp)]

set_option maxRecDepth 100000 in
set_option maxHeartbeats 400000 in
theorem write_any (b : Nat) (t : List UInt8) (s : ByteArray) (hlen : t.length + s.size < 2305843009213693952) (w : World) (T : Tabs w) (hb2 : 4 ≤ b) (hb : Has b t w) :
    Calls Tryd.prog 85 #[.pointer (some ⟨b, 0, none⟩), .string s] w fun e w' => e = .returned (.tuple #[]) ∧ Has b (t ++ s.data.toList) w' ∧ But b w w' := by
  go_enter Tryd.func85, Tryd.ntmps85
  go_wp2
  go_loopw [1] (fun v w' => ∃ (r : ByteArray) (tt : List UInt8), v = .string r ∧ Hid (tt ++ r.data.toList = t ++ s.data.toList) ∧ Has b tt w' ∧ But b w w') (fun v _ => strLen v)
  case atStart => exact ⟨s, t, rfl, rfl, hb, But.refl _ _⟩
  case round =>
    obtain ⟨r, tt, rfl, hr, ⟨st, rest, hs, hh⟩, hbut⟩ := hrel
    have hrl : tt.length + r.size < 2305843009213693952 := by
      have := congrArg List.length hr.out
      have e1 : r.data.toList.length = r.size := by rw [Array.length_toList]; rfl
      have e2 : s.data.toList.length = s.size := by rw [Array.length_toList]; rfl
      simp only [List.length_append] at this
      omega
    have T' := hbut.tabs T hb2
    by_cases h0 : 0 < r.size
    · have h0' : (0 : Int) < (r.size : Int) := by omega
      have c72 := hcells_taken hh hs.len
      generalize hn : tt.length = n at *
      have Hn : Hid _ := hn
      clear hn
      have b1 : (n : Int) % 64 ≤ 64 := by omega
      have b2 : (0 : Int) ≤ (n : Int) % 64 := by omega
      have t1 : ((n : Int) % 64).toNat = n % 64 := by omega
      obtain ⟨c, w2, k1, k2, k3, k4, hcp, hh2, hb2'⟩ := copy_step wr b n st rest r hs.len h0 hh
      have hul : (r.data.toList.take c).length = c := by rw [List.length_take, data_length]; omega
      have hol : (Sha.over rest (n % 64) (r.data.toList.take c)).length = 64 := by rw [Sha.over_length _ _ _ (by rw [hul, hs.len]; omega), hs.len]
      have d72 := hcells_taken hh2 hol
      have f72 : w2.frozen? ⟨b, 72, none⟩ = false := frozen_of_row _ _ _ _ _ hh2
      have hlt2 := lt_of_heap hh2
      have T2 : Tabs w2 := hb2'.tabs T' hb2
      have Hhs : Hid (Sha.HS tt st rest) := hs
      have Hul : Hid _ := hul
      have Hol : Hid _ := hol
      clear hs hul hol hh
      generalize hrest2 : Sha.over rest (n % 64) (r.data.toList.take c) = rest2 at *
      have Hr2 : Hid _ := hrest2
      clear hrest2
      have fin : Hid ((r.extract c r.size).data.toList = r.data.toList.drop c) := drop_rest r c
      by_cases hfull : n % 64 + c = 64
      · have g1 : ((n : Int) % 64 + (c : Int) == 64) = true := by simp; omega
        have hu := Tryd.underlying131
        have hi : (Tryd.prog.info? 131).map (·.size) = some (bv rest2).length := by rw [info64b, bv_length, Hol.out]
        have hi2 : (bv rest2).length = 64 := by rw [bv_length, Hol.out]
        have ho : ∀ v ∈ bv rest2, v.oneCell' = true := fun v hv => bv_mem hv
        have rg := hcells_rest hh2
        have th := there_of_row hh2 0 8 (by rw [List.size_toArray, hcells_length Hol.out]; omega)
        have hi3 := size8 (Sha.fold (if n < 64 then Sha.iv else st) rest2)
        have hi4 : (wv (Sha.fold (if n < 64 then Sha.iv else st) rest2).l).length = 8 := rfl
        have ho2 : ∀ v ∈ wv (Sha.fold (if n < 64 then Sha.iv else st) rest2).l, v.oneCell' = true := fun v hv => wv_mem hv
        go_wp2
        have hok : (if n < 64 then Sha.iv else st).ok := by split; exact Sha.iv_ok; exact Hhs.out.ok
        generalize hst1 : (if n < 64 then Sha.iv else st) = st1 at *
        have Hst1 : Hid _ := hst1
        clear hst1
        generalize hF : Sha.fold st1 rest2 = F at *
        have HF : Hid _ := hF
        clear hF
        have hstore := store_state Tryd.prog b F
        have rg1 : w2.drew.rangeAt b 8 (bv rest2) := (World.rangeAt_drew _ _ _ _).2 rg
        have th1 : w2.drew.there b 0 8 := (World.there_drew _ _ _ _).2 th
        have hlt3 : b < w2.drew.heap.size := hlt2
        go_region_held3 (fun w' => w'.rangeAt b 8 (bv rest2) ∧ w'.there b 0 8) (first | with_reducible exact ⟨rg1, th1⟩ | with_reducible exact ⟨rg3, th3⟩ | with_reducible exact ⟨rg4, th4⟩ | with_reducible exact ⟨rg5, th5⟩)
          (first
            | (go_at_call 89; refine (words_at b n st st1 Hst1 rest2 Hol.out _ ?_ ?_).mono ?_; (exact T2.below (Below.refl 4 w2).drew (Nat.le_refl 4)); (exact hh2); rintro e w3 ⟨rfl, hw3⟩; have rg3 := rangeAt_below rg1 hw3 hlt3; have th3 := there_below th1 hw3 hlt3)
            | (go_at_call 88; refine (fold_at st1 F hok rest2 HF Hol.out _ ?_).mono ?_; (exact T2.below ((Below.refl 4 w2).drew.trans (hw3.mono T2.lt)) (Nat.le_refl 4)); rintro e w4 ⟨rfl, hw4⟩; have rg4 := rangeAt_below rg3 hw4 (Nat.lt_of_lt_of_le hlt3 hw3.size); have th4 := there_below th3 hw4 (Nat.lt_of_lt_of_le hlt3 hw3.size); have rg5 := World.rangeAt_setCells_apart rg4 b 0 (wv F.l) (Or.inr (Or.inr (Nat.le_refl 8))); have th5 := World.there_setCells th4 b 0 (wv F.l)))
        have hh5 := heap_setState ((hw4.block b (Nat.lt_of_lt_of_le hlt3 hw3.size)).trans ((hw3.block b hlt3).trans hh2)) F
        have hb5 : But b w (w4.setCells b 0 (wv F.l)) := But.setCells _ _ ((((hbut.trans hb2').drew).trans (But.ofBelow hw3)).trans (But.ofBelow hw4))
        generalize w4.setCells b 0 (wv F.l) = w5 at *
        clear rg1 th1 rg3 th3 rg4 th4 rg5 th5 hstore hw3 hw4 d72 f72 rg th
        have d72 := hcells_taken hh5 Hol.out
        have f72 : w5.frozen? ⟨b, 72, none⟩ = false := frozen_of_row _ _ _ _ _ hh5
        go_wp2
        refine ⟨⟨_, tt ++ r.data.toList.take c, rfl, ?_, ⟨F, rest2, ?_, ?_⟩, hb5.setCell _ _⟩, ?_⟩
        · show _ = _
          rw [fin.out, List.append_assoc, List.take_append_drop]; exact hr.out
        · have := Sha.HS.full Hhs.out (r.data.toList.take c) (by rw [Hn.out, Hul.out]; omega)
          rwa [Hn.out, Hr2.out, Hst1.out, HF.out] at this
        · rw [List.length_append, Hn.out, Hul.out]
          exact heap_setTaken Hol.out hh5 (n + c)
        · simp [strLen]; omega
      · have g1 : ((n : Int) % 64 + (c : Int) == 64) = false := by simp; omega
        go_wp2
        have hcr : c = r.size := k4 (by omega)
        refine ⟨⟨_, tt ++ r.data.toList.take c, rfl, ?_, ⟨st, rest2, ?_, ?_⟩, (hbut.trans hb2').setCell _ _⟩, ?_⟩
        · show _ = _
          rw [fin.out, List.append_assoc, List.take_append_drop]; exact hr.out
        · have := Sha.HS.part Hhs.out (r.data.toList.take c) (by rw [Hn.out, Hul.out]; omega)
          rwa [Hn.out, Hr2.out] at this
        · rw [List.length_append, Hn.out, Hul.out]
          exact heap_setTaken Hol.out hh2 (n + c)
        · simp [strLen]; omega
    · have h0' : ¬ (0 : Int) < (r.size : Int) := by omega
      have hz : r.size = 0 := by omega
      have Hz : Hid _ := hz
      clear hz
      go_wp2
      go_end0
      have : r.data.toList = [] := List.length_eq_zero_iff.1 (by rw [data_length]; exact Hz.out)
      have e := hr.out
      rw [this, List.append_nil] at e
      exact ⟨rfl, ⟨st, rest, by rw [← e]; exact hs, by rw [← e]; exact hh⟩, hbut⟩
end Go.Proofs.YthoakchdlidemaaDoor

namespace Go.Proofs.YthoakchdlidemaaDoor
open Go.RowKit

theorem hid {p : Prop} (h : p) : Hid p := h
theorem sv_data (l : List UInt8) : (ByteArray.mk l.toArray).data.toList = l := by simp
theorem sv_size (l : List UInt8) : (ByteArray.mk l.toArray).size = l.length := by rw [← data_length, sv_data]
theorem write_sv (b : Nat) (t l : List UInt8) (hlen : t.length + l.length < 2305843009213693952) (w : World) (T : Tabs w) (hb2 : 4 ≤ b) (hb : Has b t w) :
    Calls Tryd.prog 85 #[.pointer (some ⟨b, 0, none⟩), sv l] w fun e w' => e = .returned (.tuple #[]) ∧ Has b (t ++ l) w' ∧ But b w w' := by
  have := write_any b t ⟨l.toArray⟩ (by rw [sv_size]; exact hlen) w T hb2 hb
  rwa [sv_data] at this
theorem Has.lt {b : Nat} {t : List UInt8} {w : World} (h : Has b t w) : b < w.heap.size := by
  obtain ⟨st, rest, _, hh⟩ := h
  exact lt_of_heap hh
theorem Has.below {b B : Nat} {t : List UInt8} {w w' : World} (h : Has b t w) (hb : Below B w w') (hB : b < B) : Has b t w' := by
  obtain ⟨st, rest, h1, hh⟩ := h
  exact ⟨st, rest, h1, (hb.block b hB).trans hh⟩
theorem Has.but {b c : Nat} {t : List UInt8} {w w' : World} (h : Has b t w) (hb : But c w w') (hne : b ≠ c) : Has b t w' := by
  have hl := h.lt
  obtain ⟨st, rest, h1, hh⟩ := h
  exact ⟨st, rest, h1, (hb.block b hl hne).trans hh⟩

theorem new_hasher (w1 : World) (Z C : Array Value) : ((w1.alloc (.cells Z 134)).setRow w1.heap.size C).heap[w1.heap.size]? = some (.cells C 134 (0, 0)) ∧
    Below w1.heap.size w1 ((w1.alloc (.cells Z 134)).setRow w1.heap.size C) :=
  ⟨setRow_heap _ _ _ _ _ _ (heap_alloc_new w1 _), Below.setRow ((Below.refl _ _).alloc (Nat.le_refl _) _) (Nat.le_refl _) _⟩

set_option maxRecDepth 100000 in
set_option maxHeartbeats 400000 in
theorem hsum_any (b : Nat) (t : List UInt8) (hlen : t.length < 2305843009213693800) (w : World) (T : Tabs w) (hb : Has b t w) :
    Calls Tryd.prog 86 #[.pointer (some ⟨b, 0, none⟩)] w fun e w' => e = .returned (sv (Sha.sha t)) ∧ Below w.heap.size w w' := by
  obtain ⟨st, rest, hs, hh⟩ := hb
  have HH : Hid _ := hh
  have HS : Hid _ := hs
  have hl := hs.len
  have hT := T.lt
  clear hh hs
  have hz := zero60
  go_enter Tryd.func86, Tryd.ntmps86
  go_wp2_with (first
    | (go_at_call 90; refine (copied_any b _ st rest hl _ HH.out).mono ?_; rintro e w1 ⟨rfl, hw1⟩)
    | (with_reducible show wpList _ _ _ (Oper.mk _ (Op.store 134 _ _) _ _ _ _ :: _) _ _; go_must (refine wpList_store_row rfl 134 _ _ rfl w1.heap.size _ rfl rfl 134 _ (heap_alloc_new w1 _) (size73 hl) (by rw [List.size_toArray, List.size_toArray, hcells_length hl, hcells_length (by simp [r0])]) (hcells_one _ _ _) ?_); go_must (obtain ⟨hh2, hw2⟩ := new_hasher w1 (hcells z0 r0 0).toArray (hcells st rest t.length).toArray; have hM := hw1.size; replace hw2 := hw1.trans (hw2.mono hM); generalize (w1.alloc (Obj.cells (hcells z0 r0 0).toArray 134)).setRow w1.heap.size (hcells st rest t.length).toArray = w2 at *; generalize w1.heap.size = M at *; clear hw1; have d72 := hcells_taken hh2 hl; have T2 := T.below hw2 hT; have Hh2 := hid hh2; clear hh2))
    | (go_at_call 91; refine (filling_any _ (by omega) _).mono ?_; rintro e w3 ⟨rfl, hw3⟩)
    | (go_at_call 85; refine (write_sv M t (Sha.filling t.length) (by have := Sha.filling_mod t.length; omega) _ (T2.below hw3 T2.lt) (by omega) (Has.below ⟨st, rest, HS.out, Hh2.out⟩ hw3 (lt_of_heap Hh2.out))).mono ?_; rintro e w4 ⟨rfl, ⟨st4, rest4, hs4, hh4⟩, hw4⟩; have Hs4 := hid hs4; have Hh4 := hid hh4; clear hs4 hh4)
    | (with_reducible show wpList _ _ _ (Oper.mk _ (Op.load 132 _) _ _ _ _ :: _) _ _; go_must (refine wpList_load_mid rfl 132 _ rfl M 0 rfl _ _ (hcells_state Hh4.out) Tryd.underlying132 rfl (size8 _) ?_))
    | (go_at_call 92; refine (wordBytes_any st4 Hs4.out.ok _).mono ?_; rintro e w5 ⟨rfl, hw5⟩))
  go_ret
  refine ⟨?_, ?_⟩
  · show Ending.returned (sv st4.bytes) = _
    rw [Hs4.out.sum]
  · have hlt := lt_of_heap Hh2.out
    have b2 := hw3.size
    have b4 := hw4.size
    have b1 := hw2.size
    exact ((hw2.trans (hw3.mono (by omega))).trans (hw4.below hM (by omega))).trans (hw5.mono (by omega))

/-- texts in a row of cells -/
def Texts (w : World) (g o : Nat) (ps : List (List UInt8)) : Prop := ∀ j p, ps[j]? = some p → w.cell? ⟨g, o + j, none⟩ = some (sv p)
def total (ps : List (List UInt8)) : Nat := ps.flatten.length
theorem take_flatten (ps : List (List UInt8)) (k : Nat) (h : k < ps.length) : (ps.take (k + 1)).flatten = (ps.take k).flatten ++ ps[k] := by
  rw [List.take_succ_eq_append_getElem h, List.flatten_append, List.flatten_cons, List.flatten_nil, List.append_nil]
theorem total_take (ps : List (List UInt8)) (k : Nat) (h : k < ps.length) : (ps.take k).flatten.length + ps[k].length ≤ total ps := by
  have e : ps.flatten = (ps.take (k + 1)).flatten ++ (ps.drop (k + 1)).flatten := by rw [← List.flatten_append, List.take_append_drop]
  rw [total, e, take_flatten ps k h]; simp

set_option maxRecDepth 100000 in
set_option maxHeartbeats 400000 in
theorem sum_none (w : World) (T : Tabs w) :
    Calls Tryd.prog 80 #[.slice none 0 0] w fun e w' => e = .returned (sv (Sha.sha [])) ∧ Below w.heap.size w w' := by
  have hz := zero60
  have hT := T.lt
  go_enter Tryd.func80, Tryd.ntmps80
  go_wp2
  refine wp_loop_rounds 1 ?_
  rw [rounds_succ]
  go_wp2_with (go_at_call 86; refine (hsum_any w.heap.size [] (by simp) _ (T.below ((Below.refl _ _).alloc (Nat.le_refl _) _) hT) ⟨z0, r0, Sha.HS.none, heap_alloc_new w _⟩).mono ?_; rintro e w5 ⟨rfl, hw5⟩)
  go_ret
  refine ⟨rfl, ?_⟩
  exact ((Below.refl _ _).alloc (Nat.le_refl _) _).trans (hw5.mono (by rw [size_alloc]; omega))

set_option maxRecDepth 100000 in
set_option maxHeartbeats 400000 in
theorem sum_any (g o cap : Nat) (ps : List (List UInt8)) (hlen : total ps < 2305843009213693800) (hps : ps.length ≤ maxLen) (w : World) (T : Tabs w) (hg : g < w.heap.size) (hp : Texts w g o ps) :
    Calls Tryd.prog 80 #[.slice (some ⟨g, o, none⟩) ps.length cap] w fun e w' => e = .returned (sv (Sha.sha ps.flatten)) ∧ Below w.heap.size w w' := by
  have hz := zero60
  have hT := T.lt
  unfold maxLen at hps
  have Hp := hid hp
  clear hp
  go_enter Tryd.func80, Tryd.ntmps80
  go_wp2
  go_loopw [8] (fun i w' => ∃ k : Nat, k ≤ ps.length ∧ i = .int .i64 k ∧ Has w.heap.size (ps.take k).flatten w' ∧ But w.heap.size (w.alloc (Obj.cells (hcells z0 r0 0).toArray 134)) w') (fun i _ => ps.length - (intOf i).toNat)
  case atStart => exact ⟨0, by omega, rfl, ⟨z0, r0, Sha.HS.none, heap_alloc_new w _⟩, But.refl _ _⟩
  case round =>
    obtain ⟨k, hk, rfl, hh, hbut⟩ := hrel
    have hbl : Below w.heap.size w wr := ((Below.refl _ _).alloc (Nat.le_refl _) _).trans (hbut.below (Nat.le_refl _) (by rw [size_alloc]; omega))
    have T2 := T.below hbl hT
    by_cases hlt : k < ps.length
    · have hlt' : (k : Int) < (ps.length : Int) := by omega
      have cp : wr.cell? ⟨g, o + k, none⟩ = some (sv ps[k]) := (hbl.cell (p := ⟨g, o + k, none⟩) hg).trans (Hp.out k _ (List.getElem?_eq_getElem hlt))
      have hpl := total_take ps k hlt
      have tf := hid (take_flatten ps k hlt)
      generalize ps[k] = p at *
      generalize (ps.take k).flatten = t at *
      go_wp2_with (go_at_call 85; refine (write_sv w.heap.size t p (by omega) _ T2 (by omega) hh).mono ?_; rintro e w4 ⟨rfl, hh4, hw4⟩)
      exact ⟨⟨k + 1, by omega, by go_num, by rw [tf.out]; exact hh4, hbut.trans hw4⟩, by simp [intOf]; omega⟩
    · obtain rfl : k = ps.length := by omega
      go_wp2_with (go_at_call 86; refine (hsum_any w.heap.size (ps.take ps.length).flatten (by rw [List.take_length]; exact hlen) _ T2 hh).mono ?_; rintro e w5 ⟨rfl, hw5⟩)
      go_ret
      refine ⟨by rw [← List.take_length (l := ps)]; rfl, ?_⟩
      exact hbl.trans (hw5.mono hbl.size)
end Go.Proofs.YthoakchdlidemaaDoor

namespace Go.Proofs.YthoakchdlidemaaDoor
open Go.RowKit



set_option maxRecDepth 100000 in
set_option maxHeartbeats 400000 in
theorem empty_any (w : World) (T : Tabs w) :
    Calls Tryd.prog 70 #[] w fun e w' => e = .returned (sv (Sha.sha [])) ∧ Below w.heap.size w w' := by
  go_enter Tryd.func70, Tryd.ntmps70
  go_wp2_with (go_at_call 80; refine (sum_none _ T).mono ?_; rintro e w5 ⟨rfl, hw5⟩)
  go_ret
  exact ⟨rfl, hw5⟩

theorem sv_eta (s : ByteArray) : Value.string s = sv s.data.toList := rfl
theorem texts2 (w : World) (a b : List UInt8) (t : TypeId) : Texts (w.alloc (.cells #[sv a, sv b] t)) w.heap.size 0 [a, b] := fun j p h => by
  rw [cell_of_row _ _ _ _ _ _ (heap_alloc_new w _)]
  match j, h with
  | 0, h => obtain rfl := Option.some.inj h; rfl
  | 1, h => obtain rfl := Option.some.inj h; rfl
theorem texts3 (w : World) (a b c : List UInt8) (t : TypeId) : Texts (w.alloc (.cells #[sv a, sv b, sv c] t)) w.heap.size 0 [a, b, c] := fun j p h => by
  rw [cell_of_row _ _ _ _ _ _ (heap_alloc_new w _)]
  match j, h with
  | 0, h => obtain rfl := Option.some.inj h; rfl
  | 1, h => obtain rfl := Option.some.inj h; rfl
  | 2, h => obtain rfl := Option.some.inj h; rfl


set_option maxRecDepth 100000 in
set_option maxHeartbeats 400000 in
theorem node_ok (l r : ByteArray) (hl : l.size = 32) (hr : r.size = 32) (w : World) (T : Tabs w) :
    Calls Tryd.prog 64 #[.string l, .string r] w fun e w' => e = .returned (.tuple #[sv (Sha.sha (1 :: (l.data.toList ++ r.data.toList))), .int .i64 0]) ∧ Below w.heap.size w w' := by
  have hT := T.lt
  go_enter Tryd.func64, Tryd.ntmps64
  go_wp2_with (go_at_call 80; go_must (refine (sum_any w.heap.size 0 3 [[1], l.data.toList, r.data.toList] (by simp [total, hl, hr]) (by simp [maxLen]) _ (T.below ((Below.refl _ _).alloc (Nat.le_refl _) _) hT) (by rw [size_alloc]; omega) (texts3 w [1] l.data.toList r.data.toList _)).mono ?_); rintro e w5 ⟨rfl, hw5⟩)
  go_ret2
  refine ⟨by simp, ?_⟩
  exact ((Below.refl _ _).alloc (Nat.le_refl _) _).trans (hw5.mono (by rw [size_alloc]; omega))
set_option maxRecDepth 100000 in
set_option maxHeartbeats 400000 in
theorem node_bad1 (l r : ByteArray) (hl : ¬ l.size = 32) (w : World) :
    Calls Tryd.prog 64 #[.string l, .string r] w fun e w' => e = .returned (.tuple #[sv [], .int .i64 12]) ∧ w' = w := by
  have h1 : ((l.size : Int) != 32) = true := by simp; omega
  go_enter Tryd.func64, Tryd.ntmps64
  go_wp2
  go_ret2
  exact ⟨rfl, rfl⟩
set_option maxRecDepth 100000 in
set_option maxHeartbeats 400000 in
theorem node_bad2 (l r : ByteArray) (hl : l.size = 32) (hr : ¬ r.size = 32) (w : World) :
    Calls Tryd.prog 64 #[.string l, .string r] w fun e w' => e = .returned (.tuple #[sv [], .int .i64 12]) ∧ w' = w := by
  have h1 : ((r.size : Int) != 32) = true := by simp; omega
  go_enter Tryd.func64, Tryd.ntmps64
  go_wp2
  go_ret2
  exact ⟨rfl, rfl⟩
/-- D3 -/
def nodeOf (l r : List UInt8) : List UInt8 × Int := if l.length = 32 ∧ r.length = 32 then (Sha.sha (1 :: (l ++ r)), 0) else ([], 12)
theorem node_any (l r : ByteArray) (w : World) (T : Tabs w) :
    Calls Tryd.prog 64 #[.string l, .string r] w fun e w' => e = .returned (.tuple #[sv (nodeOf l.data.toList r.data.toList).1, .int .i64 (nodeOf l.data.toList r.data.toList).2]) ∧ Below w.heap.size w w' := by
  unfold nodeOf
  rw [data_length, data_length]
  by_cases hl : l.size = 32
  · by_cases hr : r.size = 32
    · rw [if_pos ⟨hl, hr⟩]; exact node_ok l r hl hr w T
    · rw [if_neg (fun h => hr h.2)]
      refine (node_bad2 l r hl hr w).mono ?_
      rintro e w' ⟨rfl, rfl⟩
      exact ⟨rfl, Below.refl _ _⟩
  · rw [if_neg (fun h => hl h.1)]
    refine (node_bad1 l r hl w).mono ?_
    rintro e w' ⟨rfl, rfl⟩
    exact ⟨rfl, Below.refl _ _⟩
end Go.Proofs.YthoakchdlidemaaDoor
