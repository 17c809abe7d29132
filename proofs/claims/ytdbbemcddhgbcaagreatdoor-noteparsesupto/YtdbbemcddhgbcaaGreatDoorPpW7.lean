import Derived.Test.YtdbbemcddhgbcaaGreatDoorPpW4
import Derived.Test.YtdbbemcddhgbcaaGreatDoorPpW3
import Derived.Laws.BitsLemmas
namespace Go.Proofs.YtdbbemcddhgbcaaGreatDoor
open Go.RowKit

theorem hid {p : Prop} (h : p) : Hid p := h
theorem sv_data (l : List UInt8) : (ByteArray.mk l.toArray).data.toList = l := by simp
theorem sv_size (l : List UInt8) : (ByteArray.mk l.toArray).size = l.length := by rw [← data_length, sv_data]
theorem write_sv (b : Nat) (t l : List UInt8) (hlen : t.length + l.length < 2305843009213693952) (w : World) (T : Tabs w) (hb2 : 13 ≤ b) (hb : Has b t w) :
    Calls Tryz.prog 157 #[.pointer (some ⟨b, 0, none⟩), sv l] w fun e w' => e = .returned (.tuple #[]) ∧ Has b (t ++ l) w' ∧ But b w w' := by
  have := write_any b t ⟨l.toArray⟩ (by rw [sv_size]; exact hlen) w T hb2 hb
  rwa [sv_data] at this
theorem Has.lt {b : Nat} {t : List UInt8} {w : World} (h : Has b t w) : b < w.heap.size := by
  obtain ⟨st, rest, _, hh⟩ := h
  exact lt_of_heap hh
theorem Has.below {b B : Nat} {t : List UInt8} {w w' : World} (h : Has b t w) (hb : Below B w w') (hB : b < B) : Has b t w' := by
  obtain ⟨st, rest, h1, hh⟩ := h
  exact ⟨st, rest, h1, (hb.block b hB).trans hh⟩
theorem Has.but {b c : Nat} {t : List UInt8} {w w' : World} (h : Has b t w) (hb : But c w w') (hne : b ≠ c) : Has b t w' := by
  have hl := h.lt
  obtain ⟨st, rest, h1, hh⟩ := h
  exact ⟨st, rest, h1, (hb.block b hl hne).trans hh⟩

theorem new_hasher (w1 : World) (Z C : Array Value) : ((w1.alloc (.cells Z 209)).setRow w1.heap.size C).heap[w1.heap.size]? = some (.cells C 209 (0, 0)) ∧
    Below w1.heap.size w1 ((w1.alloc (.cells Z 209)).setRow w1.heap.size C) :=
  ⟨setRow_heap _ _ _ _ _ _ (heap_alloc_new w1 _), Below.setRow ((Below.refl _ _).alloc (Nat.le_refl _) _) (Nat.le_refl _) _⟩

set_option maxRecDepth 100000 in
set_option maxHeartbeats 400000 in
theorem hsum_any (b : Nat) (t : List UInt8) (hlen : t.length < 2305843009213693800) (w : World) (T : Tabs w) (hb : Has b t w) :
    Calls Tryz.prog 158 #[.pointer (some ⟨b, 0, none⟩)] w fun e w' => e = .returned (sv (Sha.sha t)) ∧ Below w.heap.size w w' := by
  obtain ⟨st, rest, hs, hh⟩ := hb
  have HH : Hid _ := hh
  have HS : Hid _ := hs
  have hl := hs.len
  have hT := T.lt
  clear hh hs
  have hz := zero60
  go_enter Tryz.func158, Tryz.ntmps158
  go_wp2_with (first
    | (go_at_call 195; refine (copied_any b _ st rest hl _ HH.out).mono ?_; rintro e w1 ⟨rfl, hw1⟩)
    | (with_reducible show wpList _ _ _ (Oper.mk _ (Op.store 209 _ _) _ _ _ _ :: _) _ _; go_must (refine wpList_store_row rfl 209 _ _ rfl w1.heap.size _ rfl rfl 209 _ (heap_alloc_new w1 _) (size73 hl) (by rw [List.size_toArray, List.size_toArray, hcells_length hl, hcells_length (by simp [r0])]) (hcells_one _ _ _) ?_); go_must (obtain ⟨hh2, hw2⟩ := new_hasher w1 (hcells z0 r0 0).toArray (hcells st rest t.length).toArray; have hM := hw1.size; replace hw2 := hw1.trans (hw2.mono hM); generalize (w1.alloc (Obj.cells (hcells z0 r0 0).toArray 209)).setRow w1.heap.size (hcells st rest t.length).toArray = w2 at *; generalize w1.heap.size = M at *; clear hw1; have d72 := hcells_taken hh2 hl; have T2 := T.below hw2 hT; have Hh2 := hid hh2; clear hh2))
    | (go_at_call 196; refine (filling_any _ (by omega) _).mono ?_; rintro e w3 ⟨rfl, hw3⟩)
    | (go_at_call 157; refine (write_sv M t (Sha.filling t.length) (by have := Sha.filling_mod t.length; omega) _ (T2.below hw3 T2.lt) (by omega) (Has.below ⟨st, rest, HS.out, Hh2.out⟩ hw3 (lt_of_heap Hh2.out))).mono ?_; rintro e w4 ⟨rfl, ⟨st4, rest4, hs4, hh4⟩, hw4⟩; have Hs4 := hid hs4; have Hh4 := hid hh4; clear hs4 hh4)
    | (with_reducible show wpList _ _ _ (Oper.mk _ (Op.load 206 _) _ _ _ _ :: _) _ _; go_must (refine wpList_load_mid rfl 206 _ rfl M 0 rfl _ _ (hcells_state Hh4.out) Tryz.underlying206 rfl (size8 _) ?_))
    | (go_at_call 197; refine (wordBytes_any st4 Hs4.out.ok _).mono ?_; rintro e w5 ⟨rfl, hw5⟩))
  go_ret
  refine ⟨?_, ?_⟩
  · show Ending.returned (sv st4.bytes) = _
    rw [Hs4.out.sum]
  · have hlt := lt_of_heap Hh2.out
    have b2 := hw3.size
    have b4 := hw4.size
    have b1 := hw2.size
    exact ((hw2.trans (hw3.mono (by omega))).trans (hw4.below hM (by omega))).trans (hw5.mono (by omega))

/-- texts in a row of cells -/
def Texts (w : World) (g o : Nat) (ps : List (List UInt8)) : Prop := ∀ j p, ps[j]? = some p → w.cell? ⟨g, o + j, none⟩ = some (sv p)
def total (ps : List (List UInt8)) : Nat := ps.flatten.length
theorem take_flatten (ps : List (List UInt8)) (k : Nat) (h : k < ps.length) : (ps.take (k + 1)).flatten = (ps.take k).flatten ++ ps[k] := by
  rw [List.take_succ_eq_append_getElem h, List.flatten_append, List.flatten_cons, List.flatten_nil, List.append_nil]
theorem total_take (ps : List (List UInt8)) (k : Nat) (h : k < ps.length) : (ps.take k).flatten.length + ps[k].length ≤ total ps := by
  have e : ps.flatten = (ps.take (k + 1)).flatten ++ (ps.drop (k + 1)).flatten := by rw [← List.flatten_append, List.take_append_drop]
  rw [total, e, take_flatten ps k h]; simp

set_option maxRecDepth 100000 in
set_option maxHeartbeats 400000 in
theorem sum_none (w : World) (T : Tabs w) :
    Calls Tryz.prog 131 #[.slice none 0 0] w fun e w' => e = .returned (sv (Sha.sha [])) ∧ Below w.heap.size w w' := by
  have hz := zero60
  have hT := T.lt
  go_enter Tryz.func131, Tryz.ntmps131
  go_wp2
  refine wp_loop_rounds 1 ?_
  rw [rounds_succ]
  go_wp2_with (go_at_call 158; refine (hsum_any w.heap.size [] (by simp) _ (T.below ((Below.refl _ _).alloc (Nat.le_refl _) _) hT) ⟨z0, r0, Sha.HS.none, heap_alloc_new w _⟩).mono ?_; rintro e w5 ⟨rfl, hw5⟩)
  go_ret
  refine ⟨rfl, ?_⟩
  exact ((Below.refl _ _).alloc (Nat.le_refl _) _).trans (hw5.mono (by rw [size_alloc]; omega))

set_option maxRecDepth 100000 in
set_option maxHeartbeats 400000 in
theorem sum_any (g o cap : Nat) (ps : List (List UInt8)) (hlen : total ps < 2305843009213693800) (hps : ps.length ≤ maxLen) (w : World) (T : Tabs w) (hg : g < w.heap.size) (hp : Texts w g o ps) :
    Calls Tryz.prog 131 #[.slice (some ⟨g, o, none⟩) ps.length cap] w fun e w' => e = .returned (sv (Sha.sha ps.flatten)) ∧ Below w.heap.size w w' := by
  have hz := zero60
  have hT := T.lt
  unfold maxLen at hps
  have Hp := hid hp
  clear hp
  go_enter Tryz.func131, Tryz.ntmps131
  go_wp2
  go_loopw [8] (fun i w' => ∃ k : Nat, k ≤ ps.length ∧ i = .int .i64 k ∧ Has w.heap.size (ps.take k).flatten w' ∧ But w.heap.size (w.alloc (Obj.cells (hcells z0 r0 0).toArray 209)) w') (fun i _ => ps.length - (intOf i).toNat)
  case atStart => exact ⟨0, by omega, rfl, ⟨z0, r0, Sha.HS.none, heap_alloc_new w _⟩, But.refl _ _⟩
  case round =>
    obtain ⟨k, hk, rfl, hh, hbut⟩ := hrel
    have hbl : Below w.heap.size w wr := ((Below.refl _ _).alloc (Nat.le_refl _) _).trans (hbut.below (Nat.le_refl _) (by rw [size_alloc]; omega))
    have T2 := T.below hbl hT
    by_cases hlt : k < ps.length
    · have hlt' : (k : Int) < (ps.length : Int) := by omega
      have cp : wr.cell? ⟨g, o + k, none⟩ = some (sv ps[k]) := (hbl.cell (p := ⟨g, o + k, none⟩) hg).trans (Hp.out k _ (List.getElem?_eq_getElem hlt))
      have hpl := total_take ps k hlt
      have tf := hid (take_flatten ps k hlt)
      generalize ps[k] = p at *
      generalize (ps.take k).flatten = t at *
      go_wp2_with (go_at_call 157; refine (write_sv w.heap.size t p (by omega) _ T2 (by omega) hh).mono ?_; rintro e w4 ⟨rfl, hh4, hw4⟩)
      exact ⟨⟨k + 1, by omega, by go_num, by rw [tf.out]; exact hh4, hbut.trans hw4⟩, by simp [intOf]; omega⟩
    · obtain rfl : k = ps.length := by omega
      go_wp2_with (go_at_call 158; refine (hsum_any w.heap.size (ps.take ps.length).flatten (by rw [List.take_length]; exact hlen) _ T2 hh).mono ?_; rintro e w5 ⟨rfl, hw5⟩)
      go_ret
      refine ⟨by rw [← List.take_length (l := ps)]; rfl, ?_⟩
      exact hbl.trans (hw5.mono hbl.size)
end Go.Proofs.YtdbbemcddhgbcaaGreatDoor

namespace Go.Proofs.YtdbbemcddhgbcaaGreatDoor
open Go.RowKit



theorem sv_eta (s : ByteArray) : Value.string s = sv s.data.toList := rfl
theorem texts2 (w : World) (a b : List UInt8) (t : TypeId) : Texts (w.alloc (.cells #[sv a, sv b] t)) w.heap.size 0 [a, b] := fun j p h => by
  rw [cell_of_row _ _ _ _ _ _ (heap_alloc_new w _)]
  match j, h with
  | 0, h => obtain rfl := Option.some.inj h; rfl
  | 1, h => obtain rfl := Option.some.inj h; rfl
theorem texts3 (w : World) (a b c : List UInt8) (t : TypeId) : Texts (w.alloc (.cells #[sv a, sv b, sv c] t)) w.heap.size 0 [a, b, c] := fun j p h => by
  rw [cell_of_row _ _ _ _ _ _ (heap_alloc_new w _)]
  match j, h with
  | 0, h => obtain rfl := Option.some.inj h; rfl
  | 1, h => obtain rfl := Option.some.inj h; rfl
  | 2, h => obtain rfl := Option.some.inj h; rfl


set_option maxRecDepth 100000 in
set_option maxHeartbeats 400000 in
theorem node_ok (l r : ByteArray) (hl : l.size = 32) (hr : r.size = 32) (w : World) (T : Tabs w) :
    Calls Tryz.prog 198 #[.string l, .string r] w fun e w' => e = .returned (.tuple #[sv (Sha.sha (1 :: (l.data.toList ++ r.data.toList))), .int .i64 0]) ∧ Below w.heap.size w w' := by
  have hT := T.lt
  go_enter Tryz.func198, Tryz.ntmps198
  go_wp2_with (go_at_call 131; go_must (refine (sum_any w.heap.size 0 3 [[1], l.data.toList, r.data.toList] (by simp [total, hl, hr]) (by simp [maxLen]) _ (T.below ((Below.refl _ _).alloc (Nat.le_refl _) _) hT) (by rw [size_alloc]; omega) (texts3 w [1] l.data.toList r.data.toList _)).mono ?_); rintro e w5 ⟨rfl, hw5⟩)
  go_ret2
  refine ⟨by simp, ?_⟩
  exact ((Below.refl _ _).alloc (Nat.le_refl _) _).trans (hw5.mono (by rw [size_alloc]; omega))
set_option maxRecDepth 100000 in
set_option maxHeartbeats 400000 in
theorem node_bad1 (l r : ByteArray) (hl : ¬ l.size = 32) (w : World) :
    Calls Tryz.prog 198 #[.string l, .string r] w fun e w' => e = .returned (.tuple #[sv [], .int .i64 12]) ∧ w' = w := by
  have h1 : ((l.size : Int) != 32) = true := by simp; omega
  go_enter Tryz.func198, Tryz.ntmps198
  go_wp2
  go_ret2
  exact ⟨rfl, rfl⟩
set_option maxRecDepth 100000 in
set_option maxHeartbeats 400000 in
theorem node_bad2 (l r : ByteArray) (hl : l.size = 32) (hr : ¬ r.size = 32) (w : World) :
    Calls Tryz.prog 198 #[.string l, .string r] w fun e w' => e = .returned (.tuple #[sv [], .int .i64 12]) ∧ w' = w := by
  have h1 : ((r.size : Int) != 32) = true := by simp; omega
  go_enter Tryz.func198, Tryz.ntmps198
  go_wp2
  go_ret2
  exact ⟨rfl, rfl⟩
/-- D3 -/
def nodeOf (l r : List UInt8) : List UInt8 × Int := if l.length = 32 ∧ r.length = 32 then (Sha.sha (1 :: (l ++ r)), 0) else ([], 12)
theorem node_any (l r : ByteArray) (w : World) (T : Tabs w) :
    Calls Tryz.prog 198 #[.string l, .string r] w fun e w' => e = .returned (.tuple #[sv (nodeOf l.data.toList r.data.toList).1, .int .i64 (nodeOf l.data.toList r.data.toList).2]) ∧ Below w.heap.size w w' := by
  unfold nodeOf
  rw [data_length, data_length]
  by_cases hl : l.size = 32
  · by_cases hr : r.size = 32
    · rw [if_pos ⟨hl, hr⟩]; exact node_ok l r hl hr w T
    · rw [if_neg (fun h => hr h.2)]
      refine (node_bad2 l r hl hr w).mono ?_
      rintro e w' ⟨rfl, rfl⟩
      exact ⟨rfl, Below.refl _ _⟩
  · rw [if_neg (fun h => hl h.1)]
    refine (node_bad1 l r hl w).mono ?_
    rintro e w' ⟨rfl, rfl⟩
    exact ⟨rfl, Below.refl _ _⟩
end Go.Proofs.YtdbbemcddhgbcaaGreatDoor

/- THE PLAIN MATHEMATICS OF THE REFERENCE's WORDS: 64-bit ints that stay below 2^63. -/
namespace Go.Proofs.YtdbbemcddhgbcaaGreatDoor.Sha
open Go

theorem i64_small (n : Nat) (h : n < 9223372036854775808) : IntKind.i64.wrap (n : Int) = (n : Int) := by rw [IntKind.wrap_i64]; omega
theorem i64_or_nat (a b : Nat) (ha : a < 9223372036854775808) (hb : b < 9223372036854775808) : bits .or .i64 (a : Int) (b : Int) = ((a ||| b : Nat) : Int) := by
  have hx : a ||| b < 2 ^ 63 := Nat.or_lt_two_pow (by omega) (by omega)
  show IntKind.i64.wrap ((BitVec.ofInt 64 (a : Int) ||| BitVec.ofInt 64 (b : Int)).toNat : Int) = _
  rw [BitVec.toNat_or, ofInt_u64 a (by omega), ofInt_u64 b (by omega)]
  exact i64_small _ hx
theorem i64_and_nat (a b : Nat) (ha : a < 9223372036854775808) (hb : b < 9223372036854775808) : bits .and .i64 (a : Int) (b : Int) = ((a &&& b : Nat) : Int) := by
  have hx : a &&& b < 2 ^ 63 := Nat.and_lt_two_pow _ (by omega)
  show IntKind.i64.wrap ((BitVec.ofInt 64 (a : Int) &&& BitVec.ofInt 64 (b : Int)).toNat : Int) = _
  rw [BitVec.toNat_and, ofInt_u64 a (by omega), ofInt_u64 b (by omega)]
  exact i64_small _ hx
theorem i64_xor_nat (a b : Nat) (ha : a < 9223372036854775808) (hb : b < 9223372036854775808) : bits .xor .i64 (a : Int) (b : Int) = ((a ^^^ b : Nat) : Int) := by
  have hx : a ^^^ b < 2 ^ 63 := Nat.xor_lt_two_pow (by omega) (by omega)
  show IntKind.i64.wrap ((BitVec.ofInt 64 (a : Int) ^^^ BitVec.ofInt 64 (b : Int)).toNat : Int) = _
  rw [BitVec.toNat_xor, ofInt_u64 a (by omega), ofInt_u64 b (by omega)]
  exact i64_small _ hx
theorem low_walk (a : Nat) (ha : a < 9223372036854775808) : bits .and .i64 (a : Int) 4294967295 = ((a % 4294967296 : Nat) : Int) := by
  rw [show (4294967295 : Int) = ((4294967295 : Nat) : Int) from rfl, i64_and_nat _ _ ha (by decide)]
  exact congrArg Int.ofNat (Nat.and_two_pow_sub_one_eq_mod a 32)

theorem mul_pow_lt (x k : Nat) (hx : x < 4294967296) (hk : k ≤ 31) : x * 2 ^ k < 9223372036854775808 := by
  have : 2 ^ k ≤ 2 ^ 31 := Nat.pow_le_pow_right (by decide) hk
  calc x * 2 ^ k ≤ x * 2 ^ 31 := Nat.mul_le_mul_left _ this
    _ < 9223372036854775808 := by omega
/-- the reference's turn -/
theorem rror_walk (x n : Nat) (hx : x < 4294967296) (h1 : 1 ≤ n) : bits .and .i64 (bits .or .i64 ((x : Int) / 2 ^ n) ((x : Int) * 2 ^ (32 - n))) 4294967295 = ((ror n x : Nat) : Int) := by
  have e1 : (x : Int) / 2 ^ n = ((x / 2 ^ n : Nat) : Int) := by rw [Int.natCast_ediv, Int.natCast_pow]; rfl
  have e2 : (x : Int) * 2 ^ (32 - n) = ((x * 2 ^ (32 - n) : Nat) : Int) := by rw [Int.natCast_mul, Int.natCast_pow]; rfl
  have h2 : x / 2 ^ n < 4294967296 := Nat.lt_of_le_of_lt (Nat.div_le_self _ _) hx
  have h3 := mul_pow_lt x (32 - n) hx (by omega)
  rw [e1, e2, i64_or_nat _ _ (by omega) h3, low_walk _ (Nat.or_lt_two_pow (n := 63) (by omega) h3)]
  have := Nat.or_mod_two_pow (a := x / 2 ^ n) (b := x * 2 ^ (32 - n)) (n := 32)
  rw [show (4294967296 : Nat) = 2 ^ 32 from rfl, this, ror, Nat.or_comm, Nat.mod_eq_of_lt (a := x / 2 ^ n) h2]
theorem rs0_walk (x : Nat) (hx : x < 4294967296) : bits .xor .i64 (bits .xor .i64 (ror 7 x : Nat) (ror 18 x : Nat)) ((x : Int) / 8) = ((s0 x : Nat) : Int) := by
  have a := ror_lt (n := 7) hx
  have b := ror_lt (n := 18) hx
  have c := xor_lt32 a b
  rw [show (x : Int) / 8 = ((x / 8 : Nat) : Int) from by omega, i64_xor_nat _ _ (by omega) (by omega), i64_xor_nat _ _ (by omega) (by omega)]
  rfl
theorem rs1_walk (x : Nat) (hx : x < 4294967296) : bits .xor .i64 (bits .xor .i64 (ror 17 x : Nat) (ror 19 x : Nat)) ((x : Int) / 1024) = ((s1 x : Nat) : Int) := by
  have a := ror_lt (n := 17) hx
  have b := ror_lt (n := 19) hx
  have c := xor_lt32 a b
  rw [show (x : Int) / 1024 = ((x / 1024 : Nat) : Int) from by omega, i64_xor_nat _ _ (by omega) (by omega), i64_xor_nat _ _ (by omega) (by omega)]
  rfl
theorem rS0_walk (x : Nat) (hx : x < 4294967296) : bits .xor .i64 (bits .xor .i64 (ror 2 x : Nat) (ror 13 x : Nat)) (ror 22 x : Nat) = ((S0 x : Nat) : Int) := by
  have a := ror_lt (n := 2) hx
  have b := ror_lt (n := 13) hx
  have c := xor_lt32 a b
  have d := ror_lt (n := 22) hx
  rw [i64_xor_nat _ _ (by omega) (by omega), i64_xor_nat _ _ (by omega) (by omega)]
  rfl
theorem rS1_walk (x : Nat) (hx : x < 4294967296) : bits .xor .i64 (bits .xor .i64 (ror 6 x : Nat) (ror 11 x : Nat)) (ror 25 x : Nat) = ((S1 x : Nat) : Int) := by
  have a := ror_lt (n := 6) hx
  have b := ror_lt (n := 11) hx
  have c := xor_lt32 a b
  have d := ror_lt (n := 25) hx
  rw [i64_xor_nat _ _ (by omega) (by omega), i64_xor_nat _ _ (by omega) (by omega)]
  rfl
theorem rword_walk (x0 x1 x2 x3 : Nat) (h0 : x0 < 256) (h1 : x1 < 256) (h2 : x2 < 256) (h3 : x3 < 256) :
    bits .or .i64 (bits .or .i64 (bits .or .i64 ((x0 : Int) * 16777216) ((x1 : Int) * 65536)) ((x2 : Int) * 256)) (x3 : Int) = ((word x0 x1 x2 x3 : Nat) : Int) := by
  have a : x0 * 16777216 ||| x1 * 65536 < 4294967296 := or_lt32 (by omega) (by omega)
  have b : (x0 * 16777216 ||| x1 * 65536) ||| x2 * 256 < 4294967296 := or_lt32 a (by omega)
  rw [show (x0 : Int) * 16777216 = ((x0 * 16777216 : Nat) : Int) from by omega, show (x1 : Int) * 65536 = ((x1 * 65536 : Nat) : Int) from by omega, show (x2 : Int) * 256 = ((x2 * 256 : Nat) : Int) from by omega,
    i64_or_nat _ _ (by omega) (by omega), i64_or_nat _ _ (by omega) (by omega), i64_or_nat _ _ (by omega) (by omega)]
  rfl
theorem rch_walk (e f g : Nat) (he : e < 4294967296) (hf : f < 4294967296) (hg : g < 4294967296) :
    bits .xor .i64 (bits .and .i64 (e : Int) (f : Int)) (bits .and .i64 (bits .xor .i64 4294967295 (e : Int)) (g : Int)) = ((ch e f g : Nat) : Int) := by
  have a : e &&& f < 4294967296 := and_lt32 he
  have b : 4294967295 ^^^ e < 4294967296 := xor_lt32 (by decide) he
  have c : (4294967295 ^^^ e) &&& g < 4294967296 := and_lt32 b
  rw [show (4294967295 : Int) = ((4294967295 : Nat) : Int) from rfl, i64_xor_nat _ _ (by decide) (by omega), i64_and_nat _ _ (by omega) (by omega), i64_and_nat _ _ (by omega) (by omega), i64_xor_nat _ _ (by omega) (by omega)]
  rfl
theorem rmaj_walk (a b c : Nat) (ha : a < 4294967296) (hb : b < 4294967296) (hc : c < 4294967296) :
    bits .xor .i64 (bits .xor .i64 (bits .and .i64 (a : Int) (b : Int)) (bits .and .i64 (a : Int) (c : Int))) (bits .and .i64 (b : Int) (c : Int)) = ((maj a b c : Nat) : Int) := by
  have d : a &&& b < 4294967296 := and_lt32 ha
  have e : a &&& c < 4294967296 := and_lt32 ha
  have f : b &&& c < 4294967296 := and_lt32 hb
  have g := xor_lt32 d e
  rw [i64_and_nat _ _ (by omega) (by omega), i64_and_nat _ _ (by omega) (by omega), i64_and_nat _ _ (by omega) (by omega), i64_xor_nat _ _ (by omega) (by omega), i64_xor_nat _ _ (by omega) (by omega)]
  rfl
theorem ch_lt (e f g : Nat) (he : e < 4294967296) : ch e f g < 4294967296 := xor_lt32 (and_lt32 he) (and_lt32 (xor_lt32 (by decide) he))
theorem maj_lt (a b c : Nat) (ha : a < 4294967296) (hb : b < 4294967296) : maj a b c < 4294967296 := xor_lt32 (xor_lt32 (and_lt32 ha) (and_lt32 ha)) (and_lt32 hb)
theorem low2 (a b : Nat) (ha : a < 4294967296) (hb : b < 4294967296) : bits .and .i64 ((a : Int) + (b : Int)) 4294967295 = (((a + b) % 4294967296 : Nat) : Int) := by
  rw [show (a : Int) + (b : Int) = ((a + b : Nat) : Int) from by omega]; exact low_walk _ (by omega)
theorem low4 (a b c d : Nat) (ha : a < 4294967296) (hb : b < 4294967296) (hc : c < 4294967296) (hd : d < 4294967296) : bits .and .i64 ((a : Int) + (b : Int) + (c : Int) + (d : Int)) 4294967295 = (((a + b + c + d) % 4294967296 : Nat) : Int) := by
  rw [show (a : Int) + (b : Int) + (c : Int) + (d : Int) = ((a + b + c + d : Nat) : Int) from by omega]; exact low_walk _ (by omega)
theorem low5 (a b c d e : Nat) (ha : a < 4294967296) (hb : b < 4294967296) (hc : c < 4294967296) (hd : d < 4294967296) (he : e < 4294967296) : bits .and .i64 ((a : Int) + (b : Int) + (c : Int) + (d : Int) + (e : Int)) 4294967295 = (((a + b + c + d + e) % 4294967296 : Nat) : Int) := by
  rw [show (a : Int) + (b : Int) + (c : Int) + (d : Int) + (e : Int) = ((a + b + c + d + e : Nat) : Int) from by omega]; exact low_walk _ (by omega)
theorem wrap2 (a b : Nat) (ha : a < 4294967296) (hb : b < 4294967296) : IntKind.i64.wrap ((a : Int) + (b : Int)) = (a : Int) + (b : Int) := by rw [IntKind.wrap_i64]; omega
theorem wrap3 (a b c : Nat) (ha : a < 4294967296) (hb : b < 4294967296) (hc : c < 4294967296) : IntKind.i64.wrap ((a : Int) + (b : Int) + (c : Int)) = (a : Int) + (b : Int) + (c : Int) := by rw [IntKind.wrap_i64]; omega
theorem wrap4 (a b c d : Nat) (ha : a < 4294967296) (hb : b < 4294967296) (hc : c < 4294967296) (hd : d < 4294967296) : IntKind.i64.wrap ((a : Int) + (b : Int) + (c : Int) + (d : Int)) = (a : Int) + (b : Int) + (c : Int) + (d : Int) := by rw [IntKind.wrap_i64]; omega
end Go.Proofs.YtdbbemcddhgbcaaGreatDoor.Sha
