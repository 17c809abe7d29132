import Derived.Test.YtkiibcfjjplkaaaDoorCO2
import Derived.Test.YtkiibcfjjplkaaaDoorCM1
namespace Go.Proofs.YtkiibcfjjplkaaaDoor
open Go.RowKit

theorem hid {p : Prop} (h : p) : Hid p := h
theorem sv_data (l : List UInt8) : (ByteArray.mk l.toArray).data.toList = l := by simp
theorem sv_size (l : List UInt8) : (ByteArray.mk l.toArray).size = l.length := by rw [← data_length, sv_data]
theorem write_sv (b : Nat) (t l : List UInt8) (hlen : t.length + l.length < 2305843009213693952) (w : World) (T : Tabs w) (hb2 : 4 ≤ b) (hb : Has b t w) :
    Calls Tryd.prog 81 #[.pointer (some ⟨b, 0, none⟩), sv l] w fun e w' => e = .returned (.tuple #[]) ∧ Has b (t ++ l) w' ∧ But b w w' := by
  have := write_any b t ⟨l.toArray⟩ (by rw [sv_size]; exact hlen) w T hb2 hb
  rwa [sv_data] at this
theorem Has.lt {b : Nat} {t : List UInt8} {w : World} (h : Has b t w) : b < w.heap.size := by
  obtain ⟨st, rest, _, hh⟩ := h
  exact lt_of_heap hh
theorem Has.below {b B : Nat} {t : List UInt8} {w w' : World} (h : Has b t w) (hb : Below B w w') (hB : b < B) : Has b t w' := by
  obtain ⟨st, rest, h1, hh⟩ := h
  exact ⟨st, rest, h1, (hb.block b hB).trans hh⟩
theorem Has.but {b c : Nat} {t : List UInt8} {w w' : World} (h : Has b t w) (hb : But c w w') (hne : b ≠ c) : Has b t w' := by
  have hl := h.lt
  obtain ⟨st, rest, h1, hh⟩ := h
  exact ⟨st, rest, h1, (hb.block b hl hne).trans hh⟩

theorem new_hasher (w1 : World) (Z C : Array Value) : ((w1.alloc (.cells Z 118)).setRow w1.heap.size C).heap[w1.heap.size]? = some (.cells C 118 (0, 0)) ∧
    Below w1.heap.size w1 ((w1.alloc (.cells Z 118)).setRow w1.heap.size C) :=
  ⟨setRow_heap _ _ _ _ _ _ (heap_alloc_new w1 _), Below.setRow ((Below.refl _ _).alloc (Nat.le_refl _) _) (Nat.le_refl _) _⟩

set_option maxRecDepth 100000 in
set_option maxHeartbeats 400000 in
theorem hsum_any (b : Nat) (t : List UInt8) (hlen : t.length < 2305843009213693800) (w : World) (T : Tabs w) (hb : Has b t w) :
    Calls Tryd.prog 82 #[.pointer (some ⟨b, 0, none⟩)] w fun e w' => e = .returned (sv (Sha.sha t)) ∧ Below w.heap.size w w' := by
  obtain ⟨st, rest, hs, hh⟩ := hb
  have HH : Hid _ := hh
  have HS : Hid _ := hs
  have hl := hs.len
  have hT := T.lt
  clear hh hs
  have hz := zero60
  go_enter Tryd.func82, Tryd.ntmps82
  go_wp2_with (first
    | (go_at_call 103; refine (copied_any b _ st rest hl _ HH.out).mono ?_; rintro e w1 ⟨rfl, hw1⟩)
    | (with_reducible show wpList _ _ _ (Oper.mk _ (Op.store 118 _ _) _ _ _ _ :: _) _ _; go_must (refine wpList_store_row rfl 118 _ _ rfl w1.heap.size _ rfl rfl 118 _ (heap_alloc_new w1 _) (size73 hl) (by rw [List.size_toArray, List.size_toArray, hcells_length hl, hcells_length (by simp [r0])]) (hcells_one _ _ _) ?_); go_must (obtain ⟨hh2, hw2⟩ := new_hasher w1 (hcells z0 r0 0).toArray (hcells st rest t.length).toArray; have hM := hw1.size; replace hw2 := hw1.trans (hw2.mono hM); generalize (w1.alloc (Obj.cells (hcells z0 r0 0).toArray 118)).setRow w1.heap.size (hcells st rest t.length).toArray = w2 at *; generalize w1.heap.size = M at *; clear hw1; have d72 := hcells_taken hh2 hl; have T2 := T.below hw2 hT; have Hh2 := hid hh2; clear hh2))
    | (go_at_call 104; refine (filling_any _ (by omega) _).mono ?_; rintro e w3 ⟨rfl, hw3⟩)
    | (go_at_call 81; refine (write_sv M t (Sha.filling t.length) (by have := Sha.filling_mod t.length; omega) _ (T2.below hw3 T2.lt) (by omega) (Has.below ⟨st, rest, HS.out, Hh2.out⟩ hw3 (lt_of_heap Hh2.out))).mono ?_; rintro e w4 ⟨rfl, ⟨st4, rest4, hs4, hh4⟩, hw4⟩; have Hs4 := hid hs4; have Hh4 := hid hh4; clear hs4 hh4)
    | (with_reducible show wpList _ _ _ (Oper.mk _ (Op.load 115 _) _ _ _ _ :: _) _ _; go_must (refine wpList_load_mid rfl 115 _ rfl M 0 rfl _ _ (hcells_state Hh4.out) Tryd.underlying115 rfl (size8 _) ?_))
    | (go_at_call 105; refine (wordBytes_any st4 Hs4.out.ok _).mono ?_; rintro e w5 ⟨rfl, hw5⟩))
  go_ret
  refine ⟨?_, ?_⟩
  · show Ending.returned (sv st4.bytes) = _
    rw [Hs4.out.sum]
  · have hlt := lt_of_heap Hh2.out
    have b2 := hw3.size
    have b4 := hw4.size
    have b1 := hw2.size
    exact ((hw2.trans (hw3.mono (by omega))).trans (hw4.below hM (by omega))).trans (hw5.mono (by omega))

/-- texts in a row of cells -/
def Texts (w : World) (g o : Nat) (ps : List (List UInt8)) : Prop := ∀ j p, ps[j]? = some p → w.cell? ⟨g, o + j, none⟩ = some (sv p)
def total (ps : List (List UInt8)) : Nat := ps.flatten.length
theorem take_flatten (ps : List (List UInt8)) (k : Nat) (h : k < ps.length) : (ps.take (k + 1)).flatten = (ps.take k).flatten ++ ps[k] := by
  rw [List.take_succ_eq_append_getElem h, List.flatten_append, List.flatten_cons, List.flatten_nil, List.append_nil]
theorem total_take (ps : List (List UInt8)) (k : Nat) (h : k < ps.length) : (ps.take k).flatten.length + ps[k].length ≤ total ps := by
  have e : ps.flatten = (ps.take (k + 1)).flatten ++ (ps.drop (k + 1)).flatten := by rw [← List.flatten_append, List.take_append_drop]
  rw [total, e, take_flatten ps k h]; simp

set_option maxRecDepth 100000 in
set_option maxHeartbeats 400000 in
theorem sum_none (w : World) (T : Tabs w) :
    Calls Tryd.prog 58 #[.slice none 0 0] w fun e w' => e = .returned (sv (Sha.sha [])) ∧ Below w.heap.size w w' := by
  have hz := zero60
  have hT := T.lt
  go_enter Tryd.func58, Tryd.ntmps58
  go_wp2
  refine wp_loop_rounds 1 ?_
  rw [rounds_succ]
  go_wp2_with (go_at_call 82; refine (hsum_any w.heap.size [] (by simp) _ (T.below ((Below.refl _ _).alloc (Nat.le_refl _) _) hT) ⟨z0, r0, Sha.HS.none, heap_alloc_new w _⟩).mono ?_; rintro e w5 ⟨rfl, hw5⟩)
  go_ret
  refine ⟨rfl, ?_⟩
  exact ((Below.refl _ _).alloc (Nat.le_refl _) _).trans (hw5.mono (by rw [size_alloc]; omega))

set_option maxRecDepth 100000 in
set_option maxHeartbeats 400000 in
theorem sum_any (g o cap : Nat) (ps : List (List UInt8)) (hlen : total ps < 2305843009213693800) (hps : ps.length ≤ maxLen) (w : World) (T : Tabs w) (hg : g < w.heap.size) (hp : Texts w g o ps) :
    Calls Tryd.prog 58 #[.slice (some ⟨g, o, none⟩) ps.length cap] w fun e w' => e = .returned (sv (Sha.sha ps.flatten)) ∧ Below w.heap.size w w' := by
  have hz := zero60
  have hT := T.lt
  unfold maxLen at hps
  have Hp := hid hp
  clear hp
  go_enter Tryd.func58, Tryd.ntmps58
  go_wp2
  go_loopw [8] (fun i w' => ∃ k : Nat, k ≤ ps.length ∧ i = .int .i64 k ∧ Has w.heap.size (ps.take k).flatten w' ∧ But w.heap.size (w.alloc (Obj.cells (hcells z0 r0 0).toArray 118)) w') (fun i _ => ps.length - (intOf i).toNat)
  case atStart => exact ⟨0, by omega, rfl, ⟨z0, r0, Sha.HS.none, heap_alloc_new w _⟩, But.refl _ _⟩
  case round =>
    obtain ⟨k, hk, rfl, hh, hbut⟩ := hrel
    have hbl : Below w.heap.size w wr := ((Below.refl _ _).alloc (Nat.le_refl _) _).trans (hbut.below (Nat.le_refl _) (by rw [size_alloc]; omega))
    have T2 := T.below hbl hT
    by_cases hlt : k < ps.length
    · have hlt' : (k : Int) < (ps.length : Int) := by omega
      have cp : wr.cell? ⟨g, o + k, none⟩ = some (sv ps[k]) := (hbl.cell (p := ⟨g, o + k, none⟩) hg).trans (Hp.out k _ (List.getElem?_eq_getElem hlt))
      have hpl := total_take ps k hlt
      have tf := hid (take_flatten ps k hlt)
      generalize ps[k] = p at *
      generalize (ps.take k).flatten = t at *
      go_wp2_with (go_at_call 81; refine (write_sv w.heap.size t p (by omega) _ T2 (by omega) hh).mono ?_; rintro e w4 ⟨rfl, hh4, hw4⟩)
      exact ⟨⟨k + 1, by omega, by go_num, by rw [tf.out]; exact hh4, hbut.trans hw4⟩, by simp [intOf]; omega⟩
    · obtain rfl : k = ps.length := by omega
      go_wp2_with (go_at_call 82; refine (hsum_any w.heap.size (ps.take ps.length).flatten (by rw [List.take_length]; exact hlen) _ T2 hh).mono ?_; rintro e w5 ⟨rfl, hw5⟩)
      go_ret
      refine ⟨by rw [← List.take_length (l := ps)]; rfl, ?_⟩
      exact hbl.trans (hw5.mono hbl.size)
end Go.Proofs.YtkiibcfjjplkaaaDoor

namespace Go.Proofs.YtkiibcfjjplkaaaDoor
open Go.RowKit



set_option maxRecDepth 100000 in
set_option maxHeartbeats 400000 in
theorem empty_any (w : World) (T : Tabs w) :
    Calls Tryd.prog 41 #[] w fun e w' => e = .returned (sv (Sha.sha [])) ∧ Below w.heap.size w w' := by
  go_enter Tryd.func41, Tryd.ntmps41
  go_wp2_with (go_at_call 58; refine (sum_none _ T).mono ?_; rintro e w5 ⟨rfl, hw5⟩)
  go_ret
  exact ⟨rfl, hw5⟩

theorem sv_eta (s : ByteArray) : Value.string s = sv s.data.toList := rfl
theorem texts2 (w : World) (a b : List UInt8) (t : TypeId) : Texts (w.alloc (.cells #[sv a, sv b] t)) w.heap.size 0 [a, b] := fun j p h => by
  rw [cell_of_row _ _ _ _ _ _ (heap_alloc_new w _)]
  match j, h with
  | 0, h => obtain rfl := Option.some.inj h; rfl
  | 1, h => obtain rfl := Option.some.inj h; rfl
theorem texts3 (w : World) (a b c : List UInt8) (t : TypeId) : Texts (w.alloc (.cells #[sv a, sv b, sv c] t)) w.heap.size 0 [a, b, c] := fun j p h => by
  rw [cell_of_row _ _ _ _ _ _ (heap_alloc_new w _)]
  match j, h with
  | 0, h => obtain rfl := Option.some.inj h; rfl
  | 1, h => obtain rfl := Option.some.inj h; rfl
  | 2, h => obtain rfl := Option.some.inj h; rfl


set_option maxRecDepth 100000 in
set_option maxHeartbeats 400000 in
theorem node_ok (l r : ByteArray) (hl : l.size = 32) (hr : r.size = 32) (w : World) (T : Tabs w) :
    Calls Tryd.prog 85 #[.string l, .string r] w fun e w' => e = .returned (.tuple #[sv (Sha.sha (1 :: (l.data.toList ++ r.data.toList))), .int .i64 0]) ∧ Below w.heap.size w w' := by
  have hT := T.lt
  go_enter Tryd.func85, Tryd.ntmps85
  go_wp2_with (go_at_call 58; go_must (refine (sum_any w.heap.size 0 3 [[1], l.data.toList, r.data.toList] (by simp [total, hl, hr]) (by simp [maxLen]) _ (T.below ((Below.refl _ _).alloc (Nat.le_refl _) _) hT) (by rw [size_alloc]; omega) (texts3 w [1] l.data.toList r.data.toList _)).mono ?_); rintro e w5 ⟨rfl, hw5⟩)
  go_ret2
  refine ⟨by simp, ?_⟩
  exact ((Below.refl _ _).alloc (Nat.le_refl _) _).trans (hw5.mono (by rw [size_alloc]; omega))
set_option maxRecDepth 100000 in
set_option maxHeartbeats 400000 in
theorem node_bad1 (l r : ByteArray) (hl : ¬ l.size = 32) (w : World) :
    Calls Tryd.prog 85 #[.string l, .string r] w fun e w' => e = .returned (.tuple #[sv [], .int .i64 12]) ∧ w' = w := by
  have h1 : ((l.size : Int) != 32) = true := by simp; omega
  go_enter Tryd.func85, Tryd.ntmps85
  go_wp2
  go_ret2
  exact ⟨rfl, rfl⟩
set_option maxRecDepth 100000 in
set_option maxHeartbeats 400000 in
theorem node_bad2 (l r : ByteArray) (hl : l.size = 32) (hr : ¬ r.size = 32) (w : World) :
    Calls Tryd.prog 85 #[.string l, .string r] w fun e w' => e = .returned (.tuple #[sv [], .int .i64 12]) ∧ w' = w := by
  have h1 : ((r.size : Int) != 32) = true := by simp; omega
  go_enter Tryd.func85, Tryd.ntmps85
  go_wp2
  go_ret2
  exact ⟨rfl, rfl⟩
/-- D3 -/
def nodeOf (l r : List UInt8) : List UInt8 × Int := if l.length = 32 ∧ r.length = 32 then (Sha.sha (1 :: (l ++ r)), 0) else ([], 12)
theorem node_any (l r : ByteArray) (w : World) (T : Tabs w) :
    Calls Tryd.prog 85 #[.string l, .string r] w fun e w' => e = .returned (.tuple #[sv (nodeOf l.data.toList r.data.toList).1, .int .i64 (nodeOf l.data.toList r.data.toList).2]) ∧ Below w.heap.size w w' := by
  unfold nodeOf
  rw [data_length, data_length]
  by_cases hl : l.size = 32
  · by_cases hr : r.size = 32
    · rw [if_pos ⟨hl, hr⟩]; exact node_ok l r hl hr w T
    · rw [if_neg (fun h => hr h.2)]
      refine (node_bad2 l r hl hr w).mono ?_
      rintro e w' ⟨rfl, rfl⟩
      exact ⟨rfl, Below.refl _ _⟩
  · rw [if_neg (fun h => hl h.1)]
    refine (node_bad1 l r hl w).mono ?_
    rintro e w' ⟨rfl, rfl⟩
    exact ⟨rfl, Below.refl _ _⟩
end Go.Proofs.YtkiibcfjjplkaaaDoor

namespace Go.Proofs.YtkiibcfjjplkaaaDoor
open Go.RowKit

set_option maxHeartbeats 400000 in
theorem rror_any (x : Nat) (n : Int) (hx : x < 4294967296) (h1 : 1 ≤ n) (h2 : n ≤ 31) (w : World) :
    Calls Tryd.prog 112 #[.int .i64 (x : Int), .int .i64 n] w fun e w' => e = .returned (.int .i64 (Sha.ror n.toNat x : Nat)) ∧ ∃ nq, w' = w.drewN nq := by
  obtain ⟨n, rfl⟩ := Int.eq_ofNat_of_zero_le (show 0 ≤ n by omega)
  rw [Int.toNat_natCast]
  have HR := hid (Sha.rror_walk x n hx (by omega))
  obtain ⟨k, hk⟩ : ∃ k : Nat, k = 32 - n := ⟨_, rfl⟩
  rw [← hk] at HR
  have e1 : (32 : Int) - (n : Int) = (k : Int) := by omega
  have hk2 : (k : Int) ≤ 31 := by omega
  have hw : IntKind.i64.wrap ((x : Int) * 2 ^ k) = (x : Int) * 2 ^ k := by
    have e2 : (x : Int) * 2 ^ k = ((x * 2 ^ k : Nat) : Int) := by rw [Int.natCast_mul, Int.natCast_pow]; rfl
    rw [e2]; exact Sha.i64_small _ (Sha.mul_pow_lt x k hx (by omega))
  clear hk
  go_enter Tryd.func112, Tryd.ntmps112
  go_wp2
  go_quiet (fail)
  go_wp2
  go_ret
  exact ⟨ret_int HR.out, ⟨_, rfl⟩⟩

/-- numbers as ints -/
def nv (l : List Nat) : List Value := l.map fun n => .int .i64 ((n : Nat) : Int)
theorem nv_mem {l : List Nat} {v : Value} (h : v ∈ nv l) : v.oneCell' = true := by
  simp only [nv, List.mem_map] at h
  obtain ⟨n, _, rfl⟩ := h
  rfl
theorem nv_one (l : List Nat) : (nv l).toArray.all (·.oneCell') = true := oneCell_of fun _ h => nv_mem h
@[simp] theorem nv_length (l : List Nat) : (nv l).length = l.length := by simp [nv]
theorem nv_cell {l : List Nat} {w' : World} {g : Nat} {t : TypeId} (h : w'.heap[g]? = some (.cells (nv l).toArray t (0, 0))) (j : Nat) (hj : j < l.length) :
    w'.cell? ⟨g, j, none⟩ = some (.int .i64 ((l.getD j 0 : Nat) : Int)) := by
  rw [cell_of_row w' g j _ t _ h]
  simp [nv, hj]
theorem info64n : (Tryd.prog.info? 144).map (·.size) = some 64 := by kernel_rfl
theorem info8n : (Tryd.prog.info? 137).map (·.size) = some 8 := by kernel_rfl
theorem size8n {l : List Nat} (h : l.length = 8) : (Tryd.prog.info? 137).map (·.size) = some (nv l).toArray.size := by rw [info8n, List.size_toArray, nv_length, h]
theorem size64n {l : List Nat} (h : l.length = 64) : (Tryd.prog.info? 144).map (·.size) = some (nv l).toArray.size := by rw [info64n, List.size_toArray, nv_length, h]
theorem kTab_length : Sha.kTab.length = 64 := by decide +kernel

set_option maxRecDepth 100000 in
set_option maxHeartbeats 400000 in
theorem begins_any (w : World) :
    Calls Tryd.prog 107 #[] w fun e w' => e = .returned (.agg (nv Sha.iv.l).toArray) ∧ Below w.heap.size w w' := by
  go_enter Tryd.func107, Tryd.ntmps107
  go_wp2_with (with_reducible show wpList _ _ _ (Oper.mk _ (Op.store _ _ _) _ _ _ _ :: _) _ _; go_must (refine wpList_store_row rfl 137 _ _ rfl w.heap.size (nv Sha.iv.l).toArray rfl rfl 137 _ (heap_alloc_new w _) (size8n rfl) rfl (nv_one _) ?_))
  refine bodyPost_ret (v := .agg (nv Sha.iv.l).toArray) (results_cell_row rfl _ _ w.heap.size 137 _ (0, 0) _ rfl (setRow_heap _ _ _ _ _ _ (heap_alloc_new w _)) Tryd.underlying137 rfl (size8n rfl)) rfl ⟨rfl, ?_⟩
  exact Below.setRow ((Below.refl _ _).alloc (Nat.le_refl _) _) (Nat.le_refl _) _

set_option maxRecDepth 100000 in
set_option maxHeartbeats 1000000 in
theorem rounds_any (w : World) :
    Calls Tryd.prog 113 #[] w fun e w' => e = .returned (.agg (nv Sha.kTab).toArray) ∧ Below w.heap.size w w' := by
  go_enter Tryd.func113, Tryd.ntmps113
  go_wp2_with (first
    | (with_reducible show wpList _ _ _ (Oper.mk _ (Op.build _ _) _ _ _ _ :: _) _ _; go_must (refine wpList_build rfl 144 _ rfl (by kernel_rfl) ?_))
    | (with_reducible show wpList _ _ _ (Oper.mk _ (Op.store _ _ _) _ _ _ _ :: _) _ _; go_must (refine wpList_store_row rfl 144 _ _ rfl w.heap.size (nv Sha.kTab).toArray rfl (by kernel_rfl) 144 _ (heap_alloc_new w _) (size64n kTab_length) (by kernel_rfl) (nv_one _) ?_)))
  refine bodyPost_ret (v := .agg (nv Sha.kTab).toArray) (results_cell_row rfl _ _ w.heap.size 144 _ (0, 0) _ rfl (setRow_heap _ _ _ _ _ _ (heap_alloc_new w _)) Tryd.underlying144 rfl (size64n kTab_length)) rfl ⟨rfl, ?_⟩
  exact Below.setRow ((Below.refl _ _).alloc (Nat.le_refl _) _) (Nat.le_refl _) _
end Go.Proofs.YtkiibcfjjplkaaaDoor

namespace Go.Proofs.YtkiibcfjjplkaaaDoor
open Go.RowKit

def bigTo (n m k : Nat) : List UInt8 := List.replicate (m - k) 0 ++ Sha.be n k
theorem bigTo_set (n m k : Nat) (hk : k < m) : (bv (bigTo n m k)).toArray.setIfInBounds (m - 1 - k) (.int .u8 ((UInt8.ofNat (n / 256 ^ k)).toNat : Int)) = (bv (bigTo n m (k + 1))).toArray := by
  have e : bigTo n m k = List.replicate (m - 1 - k) 0 ++ 0 :: Sha.be n k := by
    rw [bigTo, show m - k = m - 1 - k + 1 from by omega, List.replicate_succ']; simp
  have g := bv_setAt (List.replicate (m - 1 - k) 0) 0 (UInt8.ofNat (n / 256 ^ k)) (Sha.be n k)
  rw [List.length_replicate] at g
  rw [e, g, bigTo, show m - (k + 1) = m - 1 - k from by omega]
  rfl
theorem big_walk (n k : Nat) : (n : Int) / 2 ^ (8 * k) % 256 = (((UInt8.ofNat (n / 256 ^ k)).toNat : Nat) : Int) := by
  have e : (n : Int) / 2 ^ (8 * k) = ((n / 256 ^ k : Nat) : Int) := by
    rw [Int.natCast_ediv, Int.natCast_pow]
    congr 1
    rw [show (((256 : Nat) : Int)) = 2 ^ 8 from rfl, ← Int.pow_mul]
  rw [e]
  simp [UInt8.toNat_ofNat']

set_option maxRecDepth 100000 in
set_option maxHeartbeats 400000 in
theorem big_gen (n m : Nat) (hm : m ≤ 8) (w : World)
    (hmk : ∀ w, (Instr.makeSlice 74 (.int .i64 (m : Int)) (.int .i64 (m : Int))).run Tryd.prog w = .ok (.slice (some ⟨w.heap.size, 0, none⟩) m m) (w.alloc (.cells (bv (List.replicate m 0)).toArray 5))) :
    Calls Tryd.prog 109 #[.int .i64 (n : Int), .int .i64 (m : Int)] w fun e w' => e = .returned (sv (Sha.be n m)) ∧ Below w.heap.size w w' := by
  have hm' : (m : Int) ≤ 8 := by omega
  go_enter Tryd.func109, Tryd.ntmps109
  go_wp2
  go_loopw [6] (fun i w' => ∃ k : Nat, k ≤ m ∧ i = .int .i64 k ∧ w'.heap[w.heap.size]? = some (.cells (bv (bigTo n m k)).toArray 5 (0, 0)) ∧ Below w.heap.size w w') (fun i _ => m - (intOf i).toNat)
  case atStart => exact ⟨0, by omega, rfl, by rw [heap_alloc_new]; simp [bigTo, Sha.be], (Below.refl _ _).alloc (Nat.le_refl _) _⟩
  case round =>
    obtain ⟨k, hk, rfl, b0, hb⟩ := hrel
    by_cases hlt : k < m
    · have b1 : (k : Int) < (m : Int) := by omega
      have b2 : (0 : Int) ≤ (m : Int) - 1 - (k : Int) := by omega
      have b3 : (m : Int) - 1 - (k : Int) < (m : Int) := by omega
      have t1 : ((m : Int) - 1 - (k : Int)).toNat = m - 1 - k := by omega
      obtain ⟨y, _, _, c4⟩ := bv_cell b0 (m - 1 - k) (by simp [bigTo, Sha.be_length]; omega)
      have f4 : wr.frozen? ⟨w.heap.size, m - 1 - k, none⟩ = false := frozen_of_row _ _ _ _ _ b0
      go_wp2
      refine ⟨⟨k + 1, by omega, by go_num, ?_, hb.setCell (Nat.le_refl _) _⟩, by simp [intOf]; omega⟩
      rw [big_walk, heap_setCell_same _ _ _ _ _ _ b0, bigTo_set n m k hlt]
    · obtain rfl : k = m := by omega
      have b1 : wr.heap[w.heap.size]? = some (.cells (bv (Sha.be n k)).toArray 5 (0, 0)) := by rw [b0, bigTo, Nat.sub_self]; rfl
      have hcv := run_conv_bytes (P := Tryd.prog) wr 74 9 5 w.heap.size 0 k k (Sha.be n k) (Sha.be_length n k) Tryd.underlying74 Tryd.underlying5 Tryd.underlying9 (rangeAt_of_list b1 (fun j v hv => by rw [Nat.zero_add]; exact hv))
      go_wp2
      go_ret
      exact ⟨rfl, hb⟩
theorem big8 (n : Nat) (N : Int) (hN : N = (n : Int)) (w : World) :
    Calls Tryd.prog 109 #[.int .i64 N, .int .i64 8] w fun e w' => e = .returned (sv (Sha.be n 8)) ∧ Below w.heap.size w w' :=
  hN ▸ big_gen n 8 (by omega) w (fun _ => by kernel_rfl)
theorem big4 (n : Nat) (N : Int) (hN : N = (n : Int)) (w : World) :
    Calls Tryd.prog 109 #[.int .i64 N, .int .i64 4] w fun e w' => e = .returned (sv (Sha.be n 4)) ∧ Below w.heap.size w w' :=
  hN ▸ big_gen n 4 (by omega) w (fun _ => by kernel_rfl)
end Go.Proofs.YtkiibcfjjplkaaaDoor
