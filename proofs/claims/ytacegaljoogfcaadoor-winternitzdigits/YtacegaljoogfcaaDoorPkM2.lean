import Derived.Test.YtacegaljoogfcaaDoorPkM1
/- THE PLAIN MATHEMATICS OF A HASHER: what it holds behind some bytes. -/
namespace Go.Proofs.YtacegaljoogfcaaDoor.Sha

theorem foldAll_last : ∀ (k : Nat) (s : St) (l : List UInt8), foldAll s (k + 1) l = fold (foldAll s k l) ((l.drop (64 * k)).take 64)
  | 0, s, l => by simp [foldAll]
  | k + 1, s, l => by
    rw [foldAll, foldAll_last k, foldAll, List.drop_drop]
    congr 3
    omega
theorem foldAll_append : ∀ (k : Nat) (s : St) (l u : List UInt8), 64 * k ≤ l.length → foldAll s k (l ++ u) = foldAll s k l
  | 0, _, _, _, _ => rfl
  | k + 1, s, l, u, h => by
    rw [foldAll, foldAll, List.take_append_of_le_length (by omega), List.drop_append_of_le_length (by omega), foldAll_append k _ _ _ (by simp; omega)]

/-- what a hasher's fields are behind the bytes t -/
structure HS (t : List UInt8) (st : St) (rest : List UInt8) : Prop where
  ok : st.ok
  len : rest.length = 64
  tail : rest.take (t.length % 64) = t.drop (64 * (t.length / 64))
  state : 64 ≤ t.length → st = foldAll iv (t.length / 64) t

theorem HS.none : HS [] ⟨0, 0, 0, 0, 0, 0, 0, 0⟩ (List.replicate 64 0) :=
  ⟨by constructor <;> decide, by simp, by simp, by simp⟩

/-- the bytes of the block behind a copy of u -/
def over (rest : List UInt8) (at' : Nat) (u : List UInt8) : List UInt8 := rest.take at' ++ u ++ rest.drop (at' + u.length)
theorem over_length (rest : List UInt8) (at' : Nat) (u : List UInt8) (h : at' + u.length ≤ rest.length) : (over rest at' u).length = rest.length := by
  simp [over]; omega

theorem HS.part {t : List UInt8} {st : St} {rest : List UInt8} (h : HS t st rest) (u : List UInt8) (hu : t.length % 64 + u.length < 64) : HS (t ++ u) st (over rest (t.length % 64) u) := by
  have hl := h.len
  have e1 : (t ++ u).length % 64 = t.length % 64 + u.length := by simp; omega
  have e2 : (t ++ u).length / 64 = t.length / 64 := by simp; omega
  refine ⟨h.ok, by rw [over_length _ _ _ (by omega)]; exact hl, ?_, ?_⟩
  · rw [e1, e2, over, List.take_append_of_le_length (by simp; omega), List.take_of_length_le (by simp; omega), h.tail, List.drop_append_of_le_length (by omega)]
  · intro h64
    rw [e2, foldAll_append _ _ _ _ (by omega)]
    exact h.state (by simp at h64; omega)
theorem HS.full {t : List UInt8} {st : St} {rest : List UInt8} (h : HS t st rest) (u : List UInt8) (hu : t.length % 64 + u.length = 64) :
    HS (t ++ u) (fold (if t.length < 64 then iv else st) (over rest (t.length % 64) u)) (over rest (t.length % 64) u) := by
  have hl := h.len
  have e1 : (t ++ u).length % 64 = 0 := by simp; omega
  have e2 : (t ++ u).length / 64 = t.length / 64 + 1 := by simp; omega
  have hs : (if t.length < 64 then iv else st) = foldAll iv (t.length / 64) t := by
    split
    · rw [show t.length / 64 = 0 from by omega]; rfl
    · exact h.state (by omega)
  have ho : over rest (t.length % 64) u = t.drop (64 * (t.length / 64)) ++ u := by
    have hd : rest.drop (t.length % 64 + u.length) = [] := List.drop_eq_nil_of_le (by omega)
    rw [over, h.tail, hd, List.append_nil]
  refine ⟨fold_ok _ _, by rw [over_length _ _ _ (by omega)]; exact hl, ?_, ?_⟩
  · rw [e1, e2, List.drop_eq_nil_of_le (by simp; omega)]; simp
  · intro _
    rw [e2, foldAll_last, hs, ho, foldAll_append _ _ _ _ (by omega), List.drop_append_of_le_length (by omega), List.take_of_length_le (by simp; omega)]

theorem filling_length (n : Nat) : (filling n).length = 9 + (119 - n % 64) % 64 := by
  simp [filling, be]; omega
theorem filling_mod (n : Nat) : (n + (filling n).length) % 64 = 0 ∧ 9 ≤ (filling n).length ∧ (filling n).length ≤ 72 := by
  rw [filling_length]; omega
/-- what is told behind the filling -/
theorem HS.sum {t : List UInt8} {st : St} {rest : List UInt8} (h : HS (t ++ filling t.length) st rest) : st.bytes = sha t := by
  have hf := filling_mod t.length
  have e := h.state (by simp; omega)
  rw [e, sha]; simp
theorem be_length (n : Nat) : ∀ k, (be n k).length = k
  | 0 => rfl
  | k + 1 => by simp [be, be_length n k]
theorem bytes_length (s : St) : s.bytes.length = 32 := by simp [St.bytes, be_length]
theorem bytes_at (s : St) (i : Nat) (hi : i < 32) : s.bytes.getD i 0 = UInt8.ofNat (s.l.getD (i / 4) 0 / 2 ^ (8 * (3 - i % 4))) := by
  have h : i = 0 ∨ i = 1 ∨ i = 2 ∨ i = 3 ∨ i = 4 ∨ i = 5 ∨ i = 6 ∨ i = 7 ∨ i = 8 ∨ i = 9 ∨ i = 10 ∨ i = 11 ∨ i = 12 ∨ i = 13 ∨ i = 14 ∨ i = 15 ∨ i = 16 ∨ i = 17 ∨ i = 18 ∨ i = 19 ∨ i = 20 ∨ i = 21 ∨ i = 22 ∨ i = 23 ∨ i = 24 ∨ i = 25 ∨ i = 26 ∨ i = 27 ∨ i = 28 ∨ i = 29 ∨ i = 30 ∨ i = 31 := by omega
  rcases h with rfl | rfl | rfl | rfl | rfl | rfl | rfl | rfl | rfl | rfl | rfl | rfl | rfl | rfl | rfl | rfl | rfl | rfl | rfl | rfl | rfl | rfl | rfl | rfl | rfl | rfl | rfl | rfl | rfl | rfl | rfl | rfl <;> rfl
theorem l_lt {s : St} (h : s.ok) (j : Nat) : s.l.getD j 0 < 4294967296 := by
  match j with
  | 0 => exact h.a
  | 1 => exact h.b
  | 2 => exact h.c
  | 3 => exact h.d
  | 4 => exact h.e
  | 5 => exact h.f
  | 6 => exact h.g
  | 7 => exact h.h
  | j + 8 => show 0 < 4294967296; decide
theorem byte_walk (x m : Nat) : IntKind.u8.wrap ((x : Int) / 2 ^ m) = (((UInt8.ofNat (x / 2 ^ m)).toNat : Nat) : Int) := by
  rw [IntKind.wrap_u8']
  have e : (x : Int) / 2 ^ m = ((x / 2 ^ m : Nat) : Int) := by rw [Int.natCast_ediv, Int.natCast_pow]; rfl
  rw [e]
  simp [UInt8.toNat_ofNat']
theorem sha_length (l : List UInt8) : (sha l).length = 32 := by
  simp [sha, bytes_length]
/-- the array of 'filling' behind k of the length's bytes -/
def fillTo (n z k : Nat) : List UInt8 := (128 :: List.replicate (z + 8 - k) 0) ++ (be (8 * n) k ++ List.replicate (63 - z) 0)
theorem fillTo_length (n z k : Nat) (hz : z < 64) (hk : k ≤ 8) : (fillTo n z k).length = 72 := by simp [fillTo, be_length]; omega
theorem fillTo_start (n z : Nat) (hz : z < 64) : fillTo n z 0 = 128 :: List.replicate 71 0 := by
  have : List.replicate (z + 8) (0 : UInt8) ++ List.replicate (63 - z) 0 = List.replicate 71 0 := by
    rw [List.replicate_append_replicate]; congr 1; omega
  simp [fillTo, be, this]
theorem fillTo_end (n : Nat) : (fillTo n ((119 - n % 64) % 64) 8).take (9 + (119 - n % 64) % 64) = filling n := by
  generalize hz : (119 - n % 64) % 64 = z
  rw [fillTo, filling, hz]
  rw [← List.append_assoc, List.take_append_of_le_length (by simp [be_length]; omega), List.take_of_length_le (by simp [be_length]; omega)]
  simp
theorem fill_walk (n k : Nat) : (n : Int) * 8 / 2 ^ (8 * k) % 256 = (((UInt8.ofNat (8 * n / 256 ^ k)).toNat : Nat) : Int) := by
  have e : (n : Int) * 8 / 2 ^ (8 * k) = ((8 * n / 256 ^ k : Nat) : Int) := by
    rw [Int.natCast_ediv, Int.natCast_pow, Int.natCast_mul, Int.mul_comm, Nat.mul_comm 8 k]
    congr 1
    rw [show (((256 : Nat) : Int)) = 2 ^ 8 from rfl, ← Int.pow_mul, Nat.mul_comm]
  rw [e]
  simp [UInt8.toNat_ofNat']
end Go.Proofs.YtacegaljoogfcaaDoor.Sha
