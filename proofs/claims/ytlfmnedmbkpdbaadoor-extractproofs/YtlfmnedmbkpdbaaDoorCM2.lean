import Derived.Test.YtlfmnedmbkpdbaaDoorCM1
import Derived.Laws.BitsLemmas
/- THE PLAIN MATHEMATICS OF A HASHER: what it holds behind some bytes. -/
namespace Go.Proofs.YtlfmnedmbkpdbaaDoor.Sha

theorem foldAll_last : ∀ (k : Nat) (s : St) (l : List UInt8), foldAll s (k + 1) l = fold (foldAll s k l) ((l.drop (64 * k)).take 64)
  | 0, s, l => by simp [foldAll]
  | k + 1, s, l => by
    rw [foldAll, foldAll_last k, foldAll, List.drop_drop]
    congr 3
    omega
theorem foldAll_append : ∀ (k : Nat) (s : St) (l u : List UInt8), 64 * k ≤ l.length → foldAll s k (l ++ u) = foldAll s k l
  | 0, _, _, _, _ => rfl
  | k + 1, s, l, u, h => by
    rw [foldAll, foldAll, List.take_append_of_le_length (by omega), List.drop_append_of_le_length (by omega), foldAll_append k _ _ _ (by simp; omega)]

/-- what a hasher's fields are behind the bytes t -/
structure HS (t : List UInt8) (st : St) (rest : List UInt8) : Prop where
  ok : st.ok
  len : rest.length = 64
  tail : rest.take (t.length % 64) = t.drop (64 * (t.length / 64))
  state : 64 ≤ t.length → st = foldAll iv (t.length / 64) t

theorem HS.none : HS [] ⟨0, 0, 0, 0, 0, 0, 0, 0⟩ (List.replicate 64 0) :=
  ⟨by constructor <;> decide, by simp, by simp, by simp⟩

/-- the bytes of the block behind a copy of u -/
def over (rest : List UInt8) (at' : Nat) (u : List UInt8) : List UInt8 := rest.take at' ++ u ++ rest.drop (at' + u.length)
theorem over_length (rest : List UInt8) (at' : Nat) (u : List UInt8) (h : at' + u.length ≤ rest.length) : (over rest at' u).length = rest.length := by
  simp [over]; omega

theorem HS.part {t : List UInt8} {st : St} {rest : List UInt8} (h : HS t st rest) (u : List UInt8) (hu : t.length % 64 + u.length < 64) : HS (t ++ u) st (over rest (t.length % 64) u) := by
  have hl := h.len
  have e1 : (t ++ u).length % 64 = t.length % 64 + u.length := by simp; omega
  have e2 : (t ++ u).length / 64 = t.length / 64 := by simp; omega
  refine ⟨h.ok, by rw [over_length _ _ _ (by omega)]; exact hl, ?_, ?_⟩
  · rw [e1, e2, over, List.take_append_of_le_length (by simp; omega), List.take_of_length_le (by simp; omega), h.tail, List.drop_append_of_le_length (by omega)]
  · intro h64
    rw [e2, foldAll_append _ _ _ _ (by omega)]
    exact h.state (by simp at h64; omega)
theorem HS.full {t : List UInt8} {st : St} {rest : List UInt8} (h : HS t st rest) (u : List UInt8) (hu : t.length % 64 + u.length = 64) :
    HS (t ++ u) (fold (if t.length < 64 then iv else st) (over rest (t.length % 64) u)) (over rest (t.length % 64) u) := by
  have hl := h.len
  have e1 : (t ++ u).length % 64 = 0 := by simp; omega
  have e2 : (t ++ u).length / 64 = t.length / 64 + 1 := by simp; omega
  have hs : (if t.length < 64 then iv else st) = foldAll iv (t.length / 64) t := by
    split
    · rw [show t.length / 64 = 0 from by omega]; rfl
    · exact h.state (by omega)
  have ho : over rest (t.length % 64) u = t.drop (64 * (t.length / 64)) ++ u := by
    have hd : rest.drop (t.length % 64 + u.length) = [] := List.drop_eq_nil_of_le (by omega)
    rw [over, h.tail, hd, List.append_nil]
  refine ⟨fold_ok _ _, by rw [over_length _ _ _ (by omega)]; exact hl, ?_, ?_⟩
  · rw [e1, e2, List.drop_eq_nil_of_le (by simp; omega)]; simp
  · intro _
    rw [e2, foldAll_last, hs, ho, foldAll_append _ _ _ _ (by omega), List.drop_append_of_le_length (by omega), List.take_of_length_le (by simp; omega)]

theorem filling_length (n : Nat) : (filling n).length = 9 + (119 - n % 64) % 64 := by
  simp [filling, be]; omega
theorem filling_mod (n : Nat) : (n + (filling n).length) % 64 = 0 ∧ 9 ≤ (filling n).length ∧ (filling n).length ≤ 72 := by
  rw [filling_length]; omega
/-- what is told behind the filling -/
theorem HS.sum {t : List UInt8} {st : St} {rest : List UInt8} (h : HS (t ++ filling t.length) st rest) : st.bytes = sha t := by
  have hf := filling_mod t.length
  have e := h.state (by simp; omega)
  rw [e, sha]; simp
theorem be_length (n : Nat) : ∀ k, (be n k).length = k
  | 0 => rfl
  | k + 1 => by simp [be, be_length n k]
theorem bytes_length (s : St) : s.bytes.length = 32 := by simp [St.bytes, be_length]
theorem bytes_at (s : St) (i : Nat) (hi : i < 32) : s.bytes.getD i 0 = UInt8.ofNat (s.l.getD (i / 4) 0 / 2 ^ (8 * (3 - i % 4))) := by
  have h : i = 0 ∨ i = 1 ∨ i = 2 ∨ i = 3 ∨ i = 4 ∨ i = 5 ∨ i = 6 ∨ i = 7 ∨ i = 8 ∨ i = 9 ∨ i = 10 ∨ i = 11 ∨ i = 12 ∨ i = 13 ∨ i = 14 ∨ i = 15 ∨ i = 16 ∨ i = 17 ∨ i = 18 ∨ i = 19 ∨ i = 20 ∨ i = 21 ∨ i = 22 ∨ i = 23 ∨ i = 24 ∨ i = 25 ∨ i = 26 ∨ i = 27 ∨ i = 28 ∨ i = 29 ∨ i = 30 ∨ i = 31 := by omega
  rcases h with rfl | rfl | rfl | rfl | rfl | rfl | rfl | rfl | rfl | rfl | rfl | rfl | rfl | rfl | rfl | rfl | rfl | rfl | rfl | rfl | rfl | rfl | rfl | rfl | rfl | rfl | rfl | rfl | rfl | rfl | rfl | rfl <;> rfl
theorem l_lt {s : St} (h : s.ok) (j : Nat) : s.l.getD j 0 < 4294967296 := by
  match j with
  | 0 => exact h.a
  | 1 => exact h.b
  | 2 => exact h.c
  | 3 => exact h.d
  | 4 => exact h.e
  | 5 => exact h.f
  | 6 => exact h.g
  | 7 => exact h.h
  | j + 8 => show 0 < 4294967296; decide
theorem byte_walk (x m : Nat) : IntKind.u8.wrap ((x : Int) / 2 ^ m) = (((UInt8.ofNat (x / 2 ^ m)).toNat : Nat) : Int) := by
  rw [IntKind.wrap_u8']
  have e : (x : Int) / 2 ^ m = ((x / 2 ^ m : Nat) : Int) := by rw [Int.natCast_ediv, Int.natCast_pow]; rfl
  rw [e]
  simp [UInt8.toNat_ofNat']
theorem sha_length (l : List UInt8) : (sha l).length = 32 := by
  simp [sha, bytes_length]
/-- the array of 'filling' behind k of the length's bytes -/
def fillTo (n z k : Nat) : List UInt8 := (128 :: List.replicate (z + 8 - k) 0) ++ (be (8 * n) k ++ List.replicate (63 - z) 0)
theorem fillTo_length (n z k : Nat) (hz : z < 64) (hk : k ≤ 8) : (fillTo n z k).length = 72 := by simp [fillTo, be_length]; omega
theorem fillTo_start (n z : Nat) (hz : z < 64) : fillTo n z 0 = 128 :: List.replicate 71 0 := by
  have : List.replicate (z + 8) (0 : UInt8) ++ List.replicate (63 - z) 0 = List.replicate 71 0 := by
    rw [List.replicate_append_replicate]; congr 1; omega
  simp [fillTo, be, this]
theorem fillTo_end (n : Nat) : (fillTo n ((119 - n % 64) % 64) 8).take (9 + (119 - n % 64) % 64) = filling n := by
  generalize hz : (119 - n % 64) % 64 = z
  rw [fillTo, filling, hz]
  rw [← List.append_assoc, List.take_append_of_le_length (by simp [be_length]; omega), List.take_of_length_le (by simp [be_length]; omega)]
  simp
theorem fill_walk (n k : Nat) : (n : Int) * 8 / 2 ^ (8 * k) % 256 = (((UInt8.ofNat (8 * n / 256 ^ k)).toNat : Nat) : Int) := by
  have e : (n : Int) * 8 / 2 ^ (8 * k) = ((8 * n / 256 ^ k : Nat) : Int) := by
    rw [Int.natCast_ediv, Int.natCast_pow, Int.natCast_mul, Int.mul_comm, Nat.mul_comm 8 k]
    congr 1
    rw [show (((256 : Nat) : Int)) = 2 ^ 8 from rfl, ← Int.pow_mul, Nat.mul_comm]
  rw [e]
  simp [UInt8.toNat_ofNat']
end Go.Proofs.YtlfmnedmbkpdbaaDoor.Sha

/- THE PLAIN MATHEMATICS OF THE REFERENCE's WORDS: 64-bit ints that stay below 2^63. -/
namespace Go.Proofs.YtlfmnedmbkpdbaaDoor.Sha
open Go

theorem i64_small (n : Nat) (h : n < 9223372036854775808) : IntKind.i64.wrap (n : Int) = (n : Int) := by rw [IntKind.wrap_i64]; omega
theorem i64_or_nat (a b : Nat) (ha : a < 9223372036854775808) (hb : b < 9223372036854775808) : bits .or .i64 (a : Int) (b : Int) = ((a ||| b : Nat) : Int) := by
  have hx : a ||| b < 2 ^ 63 := Nat.or_lt_two_pow (by omega) (by omega)
  show IntKind.i64.wrap ((BitVec.ofInt 64 (a : Int) ||| BitVec.ofInt 64 (b : Int)).toNat : Int) = _
  rw [BitVec.toNat_or, ofInt_u64 a (by omega), ofInt_u64 b (by omega)]
  exact i64_small _ hx
theorem i64_and_nat (a b : Nat) (ha : a < 9223372036854775808) (hb : b < 9223372036854775808) : bits .and .i64 (a : Int) (b : Int) = ((a &&& b : Nat) : Int) := by
  have hx : a &&& b < 2 ^ 63 := Nat.and_lt_two_pow _ (by omega)
  show IntKind.i64.wrap ((BitVec.ofInt 64 (a : Int) &&& BitVec.ofInt 64 (b : Int)).toNat : Int) = _
  rw [BitVec.toNat_and, ofInt_u64 a (by omega), ofInt_u64 b (by omega)]
  exact i64_small _ hx
theorem i64_xor_nat (a b : Nat) (ha : a < 9223372036854775808) (hb : b < 9223372036854775808) : bits .xor .i64 (a : Int) (b : Int) = ((a ^^^ b : Nat) : Int) := by
  have hx : a ^^^ b < 2 ^ 63 := Nat.xor_lt_two_pow (by omega) (by omega)
  show IntKind.i64.wrap ((BitVec.ofInt 64 (a : Int) ^^^ BitVec.ofInt 64 (b : Int)).toNat : Int) = _
  rw [BitVec.toNat_xor, ofInt_u64 a (by omega), ofInt_u64 b (by omega)]
  exact i64_small _ hx
theorem low_walk (a : Nat) (ha : a < 9223372036854775808) : bits .and .i64 (a : Int) 4294967295 = ((a % 4294967296 : Nat) : Int) := by
  rw [show (4294967295 : Int) = ((4294967295 : Nat) : Int) from rfl, i64_and_nat _ _ ha (by decide)]
  exact congrArg Int.ofNat (Nat.and_two_pow_sub_one_eq_mod a 32)

theorem mul_pow_lt (x k : Nat) (hx : x < 4294967296) (hk : k ≤ 31) : x * 2 ^ k < 9223372036854775808 := by
  have : 2 ^ k ≤ 2 ^ 31 := Nat.pow_le_pow_right (by decide) hk
  calc x * 2 ^ k ≤ x * 2 ^ 31 := Nat.mul_le_mul_left _ this
    _ < 9223372036854775808 := by omega
/-- the reference's turn -/
theorem rror_walk (x n : Nat) (hx : x < 4294967296) (h1 : 1 ≤ n) : bits .and .i64 (bits .or .i64 ((x : Int) / 2 ^ n) ((x : Int) * 2 ^ (32 - n))) 4294967295 = ((ror n x : Nat) : Int) := by
  have e1 : (x : Int) / 2 ^ n = ((x / 2 ^ n : Nat) : Int) := by rw [Int.natCast_ediv, Int.natCast_pow]; rfl
  have e2 : (x : Int) * 2 ^ (32 - n) = ((x * 2 ^ (32 - n) : Nat) : Int) := by rw [Int.natCast_mul, Int.natCast_pow]; rfl
  have h2 : x / 2 ^ n < 4294967296 := Nat.lt_of_le_of_lt (Nat.div_le_self _ _) hx
  have h3 := mul_pow_lt x (32 - n) hx (by omega)
  rw [e1, e2, i64_or_nat _ _ (by omega) h3, low_walk _ (Nat.or_lt_two_pow (n := 63) (by omega) h3)]
  have := Nat.or_mod_two_pow (a := x / 2 ^ n) (b := x * 2 ^ (32 - n)) (n := 32)
  rw [show (4294967296 : Nat) = 2 ^ 32 from rfl, this, ror, Nat.or_comm, Nat.mod_eq_of_lt (a := x / 2 ^ n) h2]
theorem rs0_walk (x : Nat) (hx : x < 4294967296) : bits .xor .i64 (bits .xor .i64 (ror 7 x : Nat) (ror 18 x : Nat)) ((x : Int) / 8) = ((s0 x : Nat) : Int) := by
  have a := ror_lt (n := 7) hx
  have b := ror_lt (n := 18) hx
  have c := xor_lt32 a b
  rw [show (x : Int) / 8 = ((x / 8 : Nat) : Int) from by omega, i64_xor_nat _ _ (by omega) (by omega), i64_xor_nat _ _ (by omega) (by omega)]
  rfl
theorem rs1_walk (x : Nat) (hx : x < 4294967296) : bits .xor .i64 (bits .xor .i64 (ror 17 x : Nat) (ror 19 x : Nat)) ((x : Int) / 1024) = ((s1 x : Nat) : Int) := by
  have a := ror_lt (n := 17) hx
  have b := ror_lt (n := 19) hx
  have c := xor_lt32 a b
  rw [show (x : Int) / 1024 = ((x / 1024 : Nat) : Int) from by omega, i64_xor_nat _ _ (by omega) (by omega), i64_xor_nat _ _ (by omega) (by omega)]
  rfl
theorem rS0_walk (x : Nat) (hx : x < 4294967296) : bits .xor .i64 (bits .xor .i64 (ror 2 x : Nat) (ror 13 x : Nat)) (ror 22 x : Nat) = ((S0 x : Nat) : Int) := by
  have a := ror_lt (n := 2) hx
  have b := ror_lt (n := 13) hx
  have c := xor_lt32 a b
  have d := ror_lt (n := 22) hx
  rw [i64_xor_nat _ _ (by omega) (by omega), i64_xor_nat _ _ (by omega) (by omega)]
  rfl
theorem rS1_walk (x : Nat) (hx : x < 4294967296) : bits .xor .i64 (bits .xor .i64 (ror 6 x : Nat) (ror 11 x : Nat)) (ror 25 x : Nat) = ((S1 x : Nat) : Int) := by
  have a := ror_lt (n := 6) hx
  have b := ror_lt (n := 11) hx
  have c := xor_lt32 a b
  have d := ror_lt (n := 25) hx
  rw [i64_xor_nat _ _ (by omega) (by omega), i64_xor_nat _ _ (by omega) (by omega)]
  rfl
theorem rword_walk (x0 x1 x2 x3 : Nat) (h0 : x0 < 256) (h1 : x1 < 256) (h2 : x2 < 256) (h3 : x3 < 256) :
    bits .or .i64 (bits .or .i64 (bits .or .i64 ((x0 : Int) * 16777216) ((x1 : Int) * 65536)) ((x2 : Int) * 256)) (x3 : Int) = ((word x0 x1 x2 x3 : Nat) : Int) := by
  have a : x0 * 16777216 ||| x1 * 65536 < 4294967296 := or_lt32 (by omega) (by omega)
  have b : (x0 * 16777216 ||| x1 * 65536) ||| x2 * 256 < 4294967296 := or_lt32 a (by omega)
  rw [show (x0 : Int) * 16777216 = ((x0 * 16777216 : Nat) : Int) from by omega, show (x1 : Int) * 65536 = ((x1 * 65536 : Nat) : Int) from by omega, show (x2 : Int) * 256 = ((x2 * 256 : Nat) : Int) from by omega,
    i64_or_nat _ _ (by omega) (by omega), i64_or_nat _ _ (by omega) (by omega), i64_or_nat _ _ (by omega) (by omega)]
  rfl
theorem rch_walk (e f g : Nat) (he : e < 4294967296) (hf : f < 4294967296) (hg : g < 4294967296) :
    bits .xor .i64 (bits .and .i64 (e : Int) (f : Int)) (bits .and .i64 (bits .xor .i64 4294967295 (e : Int)) (g : Int)) = ((ch e f g : Nat) : Int) := by
  have a : e &&& f < 4294967296 := and_lt32 he
  have b : 4294967295 ^^^ e < 4294967296 := xor_lt32 (by decide) he
  have c : (4294967295 ^^^ e) &&& g < 4294967296 := and_lt32 b
  rw [show (4294967295 : Int) = ((4294967295 : Nat) : Int) from rfl, i64_xor_nat _ _ (by decide) (by omega), i64_and_nat _ _ (by omega) (by omega), i64_and_nat _ _ (by omega) (by omega), i64_xor_nat _ _ (by omega) (by omega)]
  rfl
theorem rmaj_walk (a b c : Nat) (ha : a < 4294967296) (hb : b < 4294967296) (hc : c < 4294967296) :
    bits .xor .i64 (bits .xor .i64 (bits .and .i64 (a : Int) (b : Int)) (bits .and .i64 (a : Int) (c : Int))) (bits .and .i64 (b : Int) (c : Int)) = ((maj a b c : Nat) : Int) := by
  have d : a &&& b < 4294967296 := and_lt32 ha
  have e : a &&& c < 4294967296 := and_lt32 ha
  have f : b &&& c < 4294967296 := and_lt32 hb
  have g := xor_lt32 d e
  rw [i64_and_nat _ _ (by omega) (by omega), i64_and_nat _ _ (by omega) (by omega), i64_and_nat _ _ (by omega) (by omega), i64_xor_nat _ _ (by omega) (by omega), i64_xor_nat _ _ (by omega) (by omega)]
  rfl
theorem ch_lt (e f g : Nat) (he : e < 4294967296) : ch e f g < 4294967296 := xor_lt32 (and_lt32 he) (and_lt32 (xor_lt32 (by decide) he))
theorem maj_lt (a b c : Nat) (ha : a < 4294967296) (hb : b < 4294967296) : maj a b c < 4294967296 := xor_lt32 (xor_lt32 (and_lt32 ha) (and_lt32 ha)) (and_lt32 hb)
theorem low2 (a b : Nat) (ha : a < 4294967296) (hb : b < 4294967296) : bits .and .i64 ((a : Int) + (b : Int)) 4294967295 = (((a + b) % 4294967296 : Nat) : Int) := by
  rw [show (a : Int) + (b : Int) = ((a + b : Nat) : Int) from by omega]; exact low_walk _ (by omega)
theorem low4 (a b c d : Nat) (ha : a < 4294967296) (hb : b < 4294967296) (hc : c < 4294967296) (hd : d < 4294967296) : bits .and .i64 ((a : Int) + (b : Int) + (c : Int) + (d : Int)) 4294967295 = (((a + b + c + d) % 4294967296 : Nat) : Int) := by
  rw [show (a : Int) + (b : Int) + (c : Int) + (d : Int) = ((a + b + c + d : Nat) : Int) from by omega]; exact low_walk _ (by omega)
theorem low5 (a b c d e : Nat) (ha : a < 4294967296) (hb : b < 4294967296) (hc : c < 4294967296) (hd : d < 4294967296) (he : e < 4294967296) : bits .and .i64 ((a : Int) + (b : Int) + (c : Int) + (d : Int) + (e : Int)) 4294967295 = (((a + b + c + d + e) % 4294967296 : Nat) : Int) := by
  rw [show (a : Int) + (b : Int) + (c : Int) + (d : Int) + (e : Int) = ((a + b + c + d + e : Nat) : Int) from by omega]; exact low_walk _ (by omega)
theorem wrap2 (a b : Nat) (ha : a < 4294967296) (hb : b < 4294967296) : IntKind.i64.wrap ((a : Int) + (b : Int)) = (a : Int) + (b : Int) := by rw [IntKind.wrap_i64]; omega
theorem wrap3 (a b c : Nat) (ha : a < 4294967296) (hb : b < 4294967296) (hc : c < 4294967296) : IntKind.i64.wrap ((a : Int) + (b : Int) + (c : Int)) = (a : Int) + (b : Int) + (c : Int) := by rw [IntKind.wrap_i64]; omega
theorem wrap4 (a b c d : Nat) (ha : a < 4294967296) (hb : b < 4294967296) (hc : c < 4294967296) (hd : d < 4294967296) : IntKind.i64.wrap ((a : Int) + (b : Int) + (c : Int) + (d : Int)) = (a : Int) + (b : Int) + (c : Int) + (d : Int) := by rw [IntKind.wrap_i64]; omega
end Go.Proofs.YtlfmnedmbkpdbaaDoor.Sha

/- THE PLAIN MATHEMATICS OF LAYER 3: roots, paths, proofs over lists; nothing of the program. -/
namespace Go.Proofs.YtlfmnedmbkpdbaaDoor
/-- D3: the node of two hashes; nothing of texts of other lengths -/
def Tree.nd (l r : List UInt8) : List UInt8 := if l.length = 32 ∧ r.length = 32 then Sha.sha (1 :: (l ++ r)) else []
namespace Tree
/-- T1 -/
def sp (n : Nat) : Nat := if n < 2 then 0 else 2 ^ (n - 1).log2
theorem sp_small {n : Nat} (h : n < 2) : sp n = 0 := by rw [sp, if_pos h]
theorem sp_eq {n : Nat} (h : 2 ≤ n) : sp n = 2 ^ (n - 1).log2 := by rw [sp, if_neg (by omega)]
theorem sp_lt {n : Nat} (h : 2 ≤ n) : sp n < n := by
  rw [sp_eq h]
  have := Nat.log2_self_le (n := n - 1) (by omega)
  omega
theorem sp_pos {n : Nat} (h : 2 ≤ n) : 0 < sp n := by rw [sp_eq h]; exact Nat.two_pow_pos _
theorem sp_ge {n : Nat} (h : 2 ≤ n) : n ≤ 2 * sp n := by
  rw [sp_eq h]
  have := Nat.lt_log2_self (n := n - 1)
  rw [Nat.pow_succ] at this
  omega
/-- the one power of two that is below n and not below its half -/
theorem sp_one {n : Nat} (h : 2 ≤ n) (a : Nat) (h1 : 2 ^ a < n) (h2 : n ≤ 2 * 2 ^ a) : sp n = 2 ^ a := by
  rw [sp_eq h]
  congr 1
  have h3 : (n - 1).log2 < a + 1 := (Nat.log2_lt (by omega)).2 (by rw [Nat.pow_succ]; omega)
  have h4 : ¬ (n - 1).log2 < a := fun hlt => by
    have := (Nat.log2_lt (n := n - 1) (by omega)).1 hlt
    omega
  omega

abbrev T := List UInt8
def rootF : Nat → List T → T
  | 0, l => l.headD (Sha.sha [])
  | f + 1, l => if l.length < 2 then l.headD (Sha.sha []) else nd (rootF f (l.take (sp l.length))) (rootF f (l.drop (sp l.length)))
def root (l : List T) : T := rootF l.length l
theorem rootF_eq : ∀ (f g : Nat) (l : List T), l.length ≤ f → l.length ≤ g → rootF f l = rootF g l
  | 0, 0, _, _, _ => rfl
  | 0, g + 1, l, h, _ => by rw [rootF, rootF, if_pos (by omega)]
  | f + 1, 0, l, _, h => by rw [rootF, rootF, if_pos (by omega)]
  | f + 1, g + 1, l, h1, h2 => by
    rw [rootF, rootF]
    by_cases h : l.length < 2
    · rw [if_pos h, if_pos h]
    · have a := sp_lt (n := l.length) (by omega)
      have b := sp_pos (n := l.length) (by omega)
      rw [if_neg h, if_neg h, rootF_eq f g _ (by simp; omega) (by simp; omega), rootF_eq f g (l.drop _) (by simp; omega) (by simp; omega)]
theorem root_nil : root [] = Sha.sha [] := rfl
theorem root_one (a : T) : root [a] = a := rfl
theorem root_cut {l : List T} (h : 2 ≤ l.length) : root l = nd (root (l.take (sp l.length))) (root (l.drop (sp l.length))) := by
  have a := sp_lt h
  have b := sp_pos h
  have e : root l = rootF (l.length - 1 + 1) l := rootF_eq _ _ _ (by omega) (by omega)
  rw [e, rootF, if_neg (by omega), root, root, rootF_eq (l.length - 1) _ (l.take _) (by simp; omega) (Nat.le_refl _), rootF_eq (l.length - 1) _ (l.drop _) (by simp; omega) (Nat.le_refl _)]
/-- are all hashes? -/
def Hs (l : List T) : Prop := ∀ x ∈ l, x.length = 32
theorem Hs.take {l : List T} (h : Hs l) (k : Nat) : Hs (l.take k) := fun x hx => h x (List.mem_of_mem_take hx)
theorem Hs.drop {l : List T} (h : Hs l) (k : Nat) : Hs (l.drop k) := fun x hx => h x (List.mem_of_mem_drop hx)
theorem nd_length {a b : T} (ha : a.length = 32) (hb : b.length = 32) : (nd a b).length = 32 := by rw [nd, if_pos ⟨ha, hb⟩, Sha.sha_length]
theorem root_length : ∀ (n : Nat) (l : List T), l.length ≤ n → Hs l → (root l).length = 32
  | n, [], _, _ => by rw [root_nil, Sha.sha_length]
  | n, [a], _, h => by rw [root_one]; exact h a (by simp)
  | 0, a :: b :: l, h, _ => by simp at h
  | n + 1, a :: b :: l, h, hh => by
    have x := sp_lt (n := (a :: b :: l).length) (by simp)
    have y := sp_pos (n := (a :: b :: l).length) (by simp)
    rw [root_cut (by simp)]
    exact nd_length (root_length n _ (by simp at *; omega) (hh.take _)) (root_length n _ (by simp at *; omega) (hh.drop _))
theorem root_hash {l : List T} (h : Hs l) : (root l).length = 32 := root_length _ l (Nat.le_refl _) h

/-- P(m, l) -/
def pathF : Nat → Nat → List T → List T
  | 0, _, _ => []
  | f + 1, m, l => if l.length < 2 then [] else
    if m < sp l.length then pathF f m (l.take (sp l.length)) ++ [root (l.drop (sp l.length))] else pathF f (m - sp l.length) (l.drop (sp l.length)) ++ [root (l.take (sp l.length))]
def path (m : Nat) (l : List T) : List T := pathF l.length m l
theorem pathF_eq : ∀ (f g m : Nat) (l : List T), l.length ≤ f → l.length ≤ g → pathF f m l = pathF g m l
  | 0, 0, _, _, _, _ => rfl
  | 0, g + 1, m, l, h, _ => by rw [pathF, pathF, if_pos (by omega)]
  | f + 1, 0, m, l, _, h => by rw [pathF, pathF, if_pos (by omega)]
  | f + 1, g + 1, m, l, h1, h2 => by
    rw [pathF, pathF]
    by_cases h : l.length < 2
    · rw [if_pos h, if_pos h]
    · have a := sp_lt (n := l.length) (by omega)
      have b := sp_pos (n := l.length) (by omega)
      rw [if_neg h, if_neg h, pathF_eq f g _ _ (by simp; omega) (by simp; omega), pathF_eq f g _ (l.drop _) (by simp; omega) (by simp; omega)]
theorem path_small {m : Nat} {l : List T} (h : l.length < 2) : path m l = [] := by
  rw [path, pathF_eq _ 1 _ _ (Nat.le_refl _) (by omega), pathF, if_pos h]
theorem path_cut {m : Nat} {l : List T} (h : 2 ≤ l.length) : path m l = if m < sp l.length then path m (l.take (sp l.length)) ++ [root (l.drop (sp l.length))] else path (m - sp l.length) (l.drop (sp l.length)) ++ [root (l.take (sp l.length))] := by
  have a := sp_lt h
  have b := sp_pos h
  have e : path m l = pathF (l.length - 1 + 1) m l := pathF_eq _ _ _ _ (by omega) (by omega)
  rw [e, pathF, if_neg (by omega), path, path, pathF_eq (l.length - 1) _ _ (l.take _) (by simp; omega) (Nat.le_refl _), pathF_eq (l.length - 1) _ _ (l.drop _) (by simp; omega) (Nat.le_refl _)]

/-- S(m, l, whole) -/
def proofF : Nat → Nat → List T → Bool → List T
  | 0, _, _, _ => []
  | f + 1, m, l, whole => if m = l.length then (if whole then [] else [root l]) else
    if m ≤ sp l.length then proofF f m (l.take (sp l.length)) whole ++ [root (l.drop (sp l.length))] else proofF f (m - sp l.length) (l.drop (sp l.length)) false ++ [root (l.take (sp l.length))]
def proof (m : Nat) (l : List T) (whole : Bool) : List T := proofF l.length m l whole
theorem proofF_eq : ∀ (f g m : Nat) (l : List T) (whole : Bool), 1 ≤ m → m ≤ l.length → l.length ≤ f → l.length ≤ g → proofF f m l whole = proofF g m l whole
  | 0, _, m, l, _, h1, h2, h3, _ => by omega
  | _ + 1, 0, m, l, _, h1, h2, _, h3 => by omega
  | f + 1, g + 1, m, l, whole, h1, h2, h3, h4 => by
    rw [proofF, proofF]
    by_cases h : m = l.length
    · rw [if_pos h, if_pos h]
    · have a := sp_lt (n := l.length) (by omega)
      have b := sp_pos (n := l.length) (by omega)
      rw [if_neg h, if_neg h]
      by_cases hm : m ≤ sp l.length
      · rw [if_pos hm, if_pos hm, proofF_eq f g _ _ _ h1 (by simp; omega) (by simp; omega) (by simp; omega)]
      · rw [if_neg hm, if_neg hm, proofF_eq f g _ (l.drop _) _ (by omega) (by simp; omega) (by simp; omega) (by simp; omega)]
theorem proof_whole {l : List T} (h : 1 ≤ l.length) : proof l.length l true = [] := by
  rw [proof, proofF_eq _ (l.length - 1 + 1) _ _ _ h (Nat.le_refl _) (Nat.le_refl _) (by omega), proofF, if_pos rfl]; rfl
theorem proof_part {l : List T} (h : 1 ≤ l.length) : proof l.length l false = [root l] := by
  rw [proof, proofF_eq _ (l.length - 1 + 1) _ _ _ h (Nat.le_refl _) (Nat.le_refl _) (by omega), proofF, if_pos rfl]; rfl
theorem proof_left {m : Nat} {l : List T} {whole : Bool} (h1 : 1 ≤ m) (h2 : m < l.length) (h3 : m ≤ sp l.length) : proof m l whole = proof m (l.take (sp l.length)) whole ++ [root (l.drop (sp l.length))] := by
  have a := sp_lt (n := l.length) (by omega)
  have b := sp_pos (n := l.length) (by omega)
  have e : proof m l whole = proofF (l.length - 1 + 1) m l whole := proofF_eq _ _ _ _ _ h1 (by omega) (by omega) (by omega)
  rw [e, proofF, if_neg (by omega), if_pos h3, proof, proofF_eq (l.length - 1) _ _ (l.take _) _ h1 (by simp; omega) (by simp; omega) (Nat.le_refl _)]
theorem proof_right {m : Nat} {l : List T} {whole : Bool} (h1 : 1 ≤ m) (h2 : m < l.length) (h3 : ¬ m ≤ sp l.length) : proof m l whole = proof (m - sp l.length) (l.drop (sp l.length)) false ++ [root (l.take (sp l.length))] := by
  have a := sp_lt (n := l.length) (by omega)
  have b := sp_pos (n := l.length) (by omega)
  have e : proof m l whole = proofF (l.length - 1 + 1) m l whole := proofF_eq _ _ _ _ _ h1 (by omega) (by omega) (by omega)
  rw [e, proofF, if_neg (by omega), if_neg h3, proof, proofF_eq (l.length - 1) _ _ (l.drop _) _ (by omega) (by simp; omega) (by simp; omega) (Nat.le_refl _)]

/-- M(indices, l), l's first leaf being the b-th of all; the indices rise -/
def manyF : Nat → List Nat → Nat → List T → List T
  | 0, _, _, _ => []
  | f + 1, is, b, l => if is = [] then [root l] else if l.length < 2 then [] else
    manyF f (is.filter (· < b + sp l.length)) b (l.take (sp l.length)) ++ manyF f (is.filter (b + sp l.length ≤ ·)) (b + sp l.length) (l.drop (sp l.length))
def many (is : List Nat) (b : Nat) (l : List T) : List T := manyF l.length is b l
theorem manyF_eq : ∀ (f g : Nat) (is : List Nat) (b : Nat) (l : List T), 1 ≤ l.length → l.length ≤ f → l.length ≤ g → manyF f is b l = manyF g is b l
  | 0, _, _, _, l, h0, h1, _ => by omega
  | _ + 1, 0, _, _, l, h0, _, h1 => by omega
  | f + 1, g + 1, is, b, l, h0, h1, h2 => by
    rw [manyF, manyF]
    by_cases hi : is = []
    · rw [if_pos hi, if_pos hi]
    · rw [if_neg hi, if_neg hi]
      by_cases h : l.length < 2
      · rw [if_pos h, if_pos h]
      · have a := sp_lt (n := l.length) (by omega)
        have b := sp_pos (n := l.length) (by omega)
        rw [if_neg h, if_neg h, manyF_eq f g _ _ _ (by simp; omega) (by simp; omega) (by simp; omega), manyF_eq f g _ _ (l.drop _) (by simp; omega) (by simp; omega) (by simp; omega)]
theorem many_none {b : Nat} {l : List T} (h : 1 ≤ l.length) : many [] b l = [root l] := by
  rw [many, manyF_eq _ (l.length - 1 + 1) _ _ _ h (by omega) (by omega), manyF, if_pos rfl]
theorem many_one {is : List Nat} {b : Nat} {l : List T} (hi : is ≠ []) (h : l.length = 1) : many is b l = [] := by
  rw [many, h, manyF, if_neg hi, if_pos (by omega)]
theorem many_cut {is : List Nat} {b : Nat} {l : List T} (hi : is ≠ []) (h : 2 ≤ l.length) :
    many is b l = many (is.filter (· < b + sp l.length)) b (l.take (sp l.length)) ++ many (is.filter (b + sp l.length ≤ ·)) (b + sp l.length) (l.drop (sp l.length)) := by
  have x := sp_lt h
  have y := sp_pos h
  rw [many, manyF_eq _ (l.length - 1 + 1) _ _ _ (by omega) (by omega) (by omega), manyF, if_neg hi, if_neg (by omega), many, many, manyF_eq (l.length - 1) _ _ _ (l.take _) (by simp; omega) (by simp; omega) (Nat.le_refl _), manyF_eq (l.length - 1) _ _ _ (l.drop _) (by simp; omega) (by simp; omega) (Nat.le_refl _)]
end Tree
end Go.Proofs.YtlfmnedmbkpdbaaDoor
