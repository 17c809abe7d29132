import Derived.Laws.BitsAllLaws
import Derived.Laws.Entries
import Derived.Laws.BitsLemmas
/- THE PLAIN MATHEMATICS OF LAYER 1: SHA-256 over naturals; nothing of the program. -/
namespace Go.Proofs.YtbodgecbakcaaaaGreatDoor.Sha
open Go
def ror (n x : Nat) : Nat := (x * 2 ^ (32 - n) % 4294967296) ||| (x / 2 ^ n)
theorem or_lt32 {a b : Nat} (ha : a < 4294967296) (hb : b < 4294967296) : a ||| b < 4294967296 := Nat.or_lt_two_pow (n := 32) ha hb
theorem xor_lt32 {a b : Nat} (ha : a < 4294967296) (hb : b < 4294967296) : a ^^^ b < 4294967296 := Nat.xor_lt_two_pow (n := 32) ha hb
theorem and_lt32 {a b : Nat} (ha : a < 4294967296) : a &&& b < 4294967296 := Nat.lt_of_le_of_lt Nat.and_le_left ha
theorem ror_lt {n x : Nat} (hx : x < 4294967296) : ror n x < 4294967296 :=
  or_lt32 (Nat.mod_lt _ (by decide)) (Nat.lt_of_le_of_lt (Nat.div_le_self _ _) hx)
def word (b0 b1 b2 b3 : Nat) : Nat := ((b0 * 16777216 ||| b1 * 65536) ||| b2 * 256) ||| b3
def s0 (x : Nat) : Nat := (ror 7 x ^^^ ror 18 x) ^^^ x / 8
def s1 (x : Nat) : Nat := (ror 17 x ^^^ ror 19 x) ^^^ x / 1024
def S0 (x : Nat) : Nat := (ror 2 x ^^^ ror 13 x) ^^^ ror 22 x
def S1 (x : Nat) : Nat := (ror 6 x ^^^ ror 11 x) ^^^ ror 25 x
def ch (e f g : Nat) : Nat := (e &&& f) ^^^ ((4294967295 ^^^ e) &&& g)
def maj (a b c : Nat) : Nat := ((a &&& b) ^^^ (a &&& c)) ^^^ (b &&& c)
def wNext (bl : List UInt8) (l : List Nat) (t : Nat) : Nat :=
  if t < 16 then word (bl.getD (4 * t) 0).toNat (bl.getD (4 * t + 1) 0).toNat (bl.getD (4 * t + 2) 0).toNat (bl.getD (4 * t + 3) 0).toNat
  else (s1 (l.getD (t - 2) 0) + l.getD (t - 7) 0 + s0 (l.getD (t - 15) 0) + l.getD (t - 16) 0) % 4294967296
def sched (bl : List UInt8) : Nat → List Nat
  | 0 => []
  | t + 1 => sched bl t ++ [wNext bl (sched bl t) t]
structure St where
  a : Nat
  b : Nat
  c : Nat
  d : Nat
  e : Nat
  f : Nat
  g : Nat
  h : Nat
def St.l (s : St) : List Nat := [s.a, s.b, s.c, s.d, s.e, s.f, s.g, s.h]
structure St.ok (s : St) : Prop where
  a : s.a < 4294967296
  b : s.b < 4294967296
  c : s.c < 4294967296
  d : s.d < 4294967296
  e : s.e < 4294967296
  f : s.f < 4294967296
  g : s.g < 4294967296
  h : s.h < 4294967296
def xOf (k w : Nat) (s : St) : Nat := (s.h + S1 s.e + ch s.e s.f s.g + k + w) % 4294967296
def yOf (s : St) : Nat := (S0 s.a + maj s.a s.b s.c) % 4294967296
def step (k w : Nat) (s : St) : St := ⟨(xOf k w s + yOf s) % 4294967296, s.a, s.b, s.c, (s.d + xOf k w s) % 4294967296, s.e, s.f, s.g⟩
def kTab : List Nat := [1116352408, 1899447441, 3049323471, 3921009573, 961987163, 1508970993, 2453635748, 2870763221,
  3624381080, 310598401, 607225278, 1426881987, 1925078388, 2162078206, 2614888103, 3248222580,
  3835390401, 4022224774, 264347078, 604807628, 770255983, 1249150122, 1555081692, 1996064986,
  2554220882, 2821834349, 2952996808, 3210313671, 3336571891, 3584528711, 113926993, 338241895,
  666307205, 773529912, 1294757372, 1396182291, 1695183700, 1986661051, 2177026350, 2456956037,
  2730485921, 2820302411, 3259730800, 3345764771, 3516065817, 3600352804, 4094571909, 275423344,
  430227734, 506948616, 659060556, 883997877, 958139571, 1322822218, 1537002063, 1747873779,
  1955562222, 2024104815, 2227730452, 2361852424, 2428436474, 2756734187, 3204031479, 3329325298]
def rnds (ws : List Nat) (s : St) : Nat → St
  | 0 => s
  | t + 1 => step (kTab.getD t 0) (ws.getD t 0) (rnds ws s t)
def addSt (s v : St) : St := ⟨(s.a + v.a) % 4294967296, (s.b + v.b) % 4294967296, (s.c + v.c) % 4294967296, (s.d + v.d) % 4294967296,
  (s.e + v.e) % 4294967296, (s.f + v.f) % 4294967296, (s.g + v.g) % 4294967296, (s.h + v.h) % 4294967296⟩
def fold (s : St) (bl : List UInt8) : St := addSt s (rnds (sched bl 64) s 64)
def iv : St := ⟨1779033703, 3144134277, 1013904242, 2773480762, 1359893119, 2600822924, 528734635, 1541459225⟩
def foldAll (s : St) : Nat → List UInt8 → St
  | 0, _ => s
  | n + 1, l => foldAll (fold s (l.take 64)) n (l.drop 64)
def be (n : Nat) : Nat → List UInt8
  | 0 => []
  | k + 1 => UInt8.ofNat (n / 256 ^ k) :: be n k
def filling (n : Nat) : List UInt8 := 128 :: (List.replicate ((119 - n % 64) % 64) 0 ++ be (8 * n) 8)
def St.bytes (s : St) : List UInt8 := be s.a 4 ++ be s.b 4 ++ be s.c 4 ++ be s.d 4 ++ be s.e 4 ++ be s.f 4 ++ be s.g 4 ++ be s.h 4
def sha (l : List UInt8) : List UInt8 :=
  (foldAll iv ((l.length + (filling l.length).length) / 64) (l ++ filling l.length)).bytes
theorem ror_walk (x n : Nat) (hx : x < 4294967296) :
    bits .or .u32 (IntKind.u32.wrap ((x : Int) * 2 ^ (32 - n))) ((x : Int) / 2 ^ n) = ((ror n x : Nat) : Int) := by
  rw [IntKind.wrap_u32']
  have e1 : ((x : Int) * 2 ^ (32 - n)) % 4294967296 = ((x * 2 ^ (32 - n) % 4294967296 : Nat) : Int) := by
    rw [Int.natCast_emod, Int.natCast_mul, Int.natCast_pow]; rfl
  have e2 : (x : Int) / 2 ^ n = ((x / 2 ^ n : Nat) : Int) := by rw [Int.natCast_ediv, Int.natCast_pow]; rfl
  rw [e1, e2, u32_or_nat _ _ (Nat.mod_lt _ (by decide)) (Nat.lt_of_le_of_lt (Nat.div_le_self _ _) hx)]
  rfl
theorem mask_walk (n : Nat) (h1 : 1 ≤ n) (h2 : n ≤ 31) : bits .and .u64 (IntKind.u64.wrap (-(n : Int))) 31 = ((32 - n : Nat) : Int) := by
  have e : IntKind.u64.wrap (-(n : Int)) = ((18446744073709551616 - n : Nat) : Int) := by
    rw [IntKind.wrap_u64]; omega
  rw [e, show (31 : Int) = ((31 : Nat) : Int) from rfl, u64_and_nat _ _ (by omega) (by omega), nat_mask5]
  omega
theorem word_walk (x0 x1 x2 x3 : Nat) (h0 : x0 < 256) (h1 : x1 < 256) (h2 : x2 < 256) (h3 : x3 < 256) :
    bits .or .u32 (bits .or .u32 (bits .or .u32 ((x0 : Int) * 16777216) ((x1 : Int) * 65536)) ((x2 : Int) * 256)) (x3 : Int) = ((word x0 x1 x2 x3 : Nat) : Int) := by
  rw [show (x0 : Int) * 16777216 = ((x0 * 16777216 : Nat) : Int) from by omega, show (x1 : Int) * 65536 = ((x1 * 65536 : Nat) : Int) from by omega, show (x2 : Int) * 256 = ((x2 * 256 : Nat) : Int) from by omega,
    u32_or_nat _ _ (by omega) (by omega), u32_or_nat _ _ (or_lt32 (by omega) (by omega)) (by omega), u32_or_nat _ _ (or_lt32 (or_lt32 (by omega) (by omega)) (by omega)) (by omega)]
  rfl
theorem word_lt (x0 x1 x2 x3 : Nat) (h0 : x0 < 256) (h1 : x1 < 256) (h2 : x2 < 256) (h3 : x3 < 256) : word x0 x1 x2 x3 < 4294967296 :=
  or_lt32 (or_lt32 (or_lt32 (by omega) (by omega)) (by omega)) (by omega)
theorem s0_walk (x : Nat) (hx : x < 4294967296) : bits .xor .u32 (bits .xor .u32 (ror 7 x : Nat) (ror 18 x : Nat)) ((x : Int) / 8) = ((s0 x : Nat) : Int) := by
  rw [show (x : Int) / 8 = ((x / 8 : Nat) : Int) from by omega, u32_xor_nat _ _ (ror_lt hx) (ror_lt hx), u32_xor_nat _ _ (xor_lt32 (ror_lt hx) (ror_lt hx)) (by omega)]
  rfl
theorem s1_walk (x : Nat) (hx : x < 4294967296) : bits .xor .u32 (bits .xor .u32 (ror 17 x : Nat) (ror 19 x : Nat)) ((x : Int) / 1024) = ((s1 x : Nat) : Int) := by
  rw [show (x : Int) / 1024 = ((x / 1024 : Nat) : Int) from by omega, u32_xor_nat _ _ (ror_lt hx) (ror_lt hx), u32_xor_nat _ _ (xor_lt32 (ror_lt hx) (ror_lt hx)) (by omega)]
  rfl
theorem S0_walk (x : Nat) (hx : x < 4294967296) : bits .xor .u32 (bits .xor .u32 (ror 2 x : Nat) (ror 13 x : Nat)) (ror 22 x : Nat) = ((S0 x : Nat) : Int) := by
  rw [u32_xor_nat _ _ (ror_lt hx) (ror_lt hx), u32_xor_nat _ _ (xor_lt32 (ror_lt hx) (ror_lt hx)) (ror_lt hx)]
  rfl
theorem S1_walk (x : Nat) (hx : x < 4294967296) : bits .xor .u32 (bits .xor .u32 (ror 6 x : Nat) (ror 11 x : Nat)) (ror 25 x : Nat) = ((S1 x : Nat) : Int) := by
  rw [u32_xor_nat _ _ (ror_lt hx) (ror_lt hx), u32_xor_nat _ _ (xor_lt32 (ror_lt hx) (ror_lt hx)) (ror_lt hx)]
  rfl
theorem s0_lt (x : Nat) (hx : x < 4294967296) : s0 x < 4294967296 := xor_lt32 (xor_lt32 (ror_lt hx) (ror_lt hx)) (by omega)
theorem s1_lt (x : Nat) (hx : x < 4294967296) : s1 x < 4294967296 := xor_lt32 (xor_lt32 (ror_lt hx) (ror_lt hx)) (by omega)
theorem S0_lt (x : Nat) (hx : x < 4294967296) : S0 x < 4294967296 := xor_lt32 (xor_lt32 (ror_lt hx) (ror_lt hx)) (ror_lt hx)
theorem S1_lt (x : Nat) (hx : x < 4294967296) : S1 x < 4294967296 := xor_lt32 (xor_lt32 (ror_lt hx) (ror_lt hx)) (ror_lt hx)
theorem sum_walk (a b : Nat) : IntKind.u32.wrap ((a : Int) + (b : Int)) = (((a + b) % 4294967296 : Nat) : Int) := by
  rw [IntKind.wrap_u32']; omega
theorem sum4_mod (a b c d : Nat) : ((((a : Int) + (b : Int)) % 4294967296 + (c : Int)) % 4294967296 + (d : Int)) % 4294967296 = (((a + b + c + d) % 4294967296 : Nat) : Int) := by omega
theorem sum_walk' (a b : Nat) : ((a : Int) + (b : Int)) % 4294967296 = (((a + b) % 4294967296 : Nat) : Int) := by omega
theorem sched_length (bl : List UInt8) : ∀ k, (sched bl k).length = k
  | 0 => rfl
  | k + 1 => by simp [sched, sched_length bl k]
theorem sched_lt (bl : List UInt8) : ∀ k, ∀ x ∈ sched bl k, x < 4294967296
  | 0 => by simp [sched]
  | k + 1 => by
    intro x hx
    rw [sched, List.mem_append, List.mem_singleton] at hx
    rcases hx with hx | rfl
    · exact sched_lt bl k x hx
    · unfold wNext
      split
      · exact word_lt _ _ _ _ (UInt8.toNat_lt _) (UInt8.toNat_lt _) (UInt8.toNat_lt _) (UInt8.toNat_lt _)
      · exact Nat.mod_lt _ (by decide)
theorem sched_getD_lt (bl : List UInt8) (k j : Nat) : (sched bl k).getD j 0 < 4294967296 := by
  by_cases h : j < (sched bl k).length
  · rw [List.getD_eq_getElem?_getD, List.getElem?_eq_getElem h]; exact sched_lt bl k _ (List.getElem_mem h)
  · rw [List.getD_eq_getElem?_getD, List.getElem?_eq_none (by omega)]; decide
theorem ch_walk (e f g : Nat) (he : e < 4294967296) (hf : f < 4294967296) (hg : g < 4294967296) :
    bits .xor .u32 (bits .and .u32 (e : Int) (f : Int)) (bits .and .u32 (bits .xor .u32 (if IntKind.u32.signed = true then -1 else IntKind.u32.max) (e : Int)) (g : Int)) = ((ch e f g : Nat) : Int) := by
  have h : (if IntKind.u32.signed = true then -1 else IntKind.u32.max) = ((4294967295 : Nat) : Int) := by decide
  rw [h, u32_xor_nat _ _ (by decide) he, u32_and_nat _ _ he hf, u32_and_nat _ _ (xor_lt32 (by decide) he) hg, u32_xor_nat _ _ (and_lt32 he) (and_lt32 (xor_lt32 (by decide) he))]
  rfl
theorem stepA_walk (k w a b c d e f g h : Nat) : (((h : Int) + (S1 e : Nat) + (ch e f g : Nat) + (k : Int) + (w : Int)) % 4294967296 + (((S0 a : Nat) : Int) + (maj a b c : Nat)) % 4294967296) % 4294967296 = (((step k w ⟨a, b, c, d, e, f, g, h⟩).a : Nat) : Int) := by
  simp only [step, xOf, yOf]; omega
theorem stepE_walk (k w a b c d e f g h : Nat) : ((d : Int) + ((h : Int) + (S1 e : Nat) + (ch e f g : Nat) + (k : Int) + (w : Int)) % 4294967296) % 4294967296 = (((step k w ⟨a, b, c, d, e, f, g, h⟩).e : Nat) : Int) := by
  simp only [step, xOf]; omega
theorem maj_walk (a b c : Nat) (ha : a < 4294967296) (hb : b < 4294967296) (hc : c < 4294967296) :
    bits .xor .u32 (bits .xor .u32 (bits .and .u32 (a : Int) (b : Int)) (bits .and .u32 (a : Int) (c : Int))) (bits .and .u32 (b : Int) (c : Int)) = ((maj a b c : Nat) : Int) := by
  rw [u32_and_nat _ _ ha hb, u32_and_nat _ _ ha hc, u32_and_nat _ _ hb hc, u32_xor_nat _ _ (and_lt32 ha) (and_lt32 ha), u32_xor_nat _ _ (xor_lt32 (and_lt32 ha) (and_lt32 ha)) (and_lt32 hb)]
  rfl
theorem xOf_lt (k w : Nat) (s : St) : xOf k w s < 4294967296 := Nat.mod_lt _ (by decide)
theorem step_ok (k w : Nat) (s : St) (h : s.ok) : (step k w s).ok := ⟨Nat.mod_lt _ (by decide), h.a, h.b, h.c, Nat.mod_lt _ (by decide), h.e, h.f, h.g⟩
theorem addSt_ok (s v : St) : (addSt s v).ok := ⟨Nat.mod_lt _ (by decide), Nat.mod_lt _ (by decide), Nat.mod_lt _ (by decide), Nat.mod_lt _ (by decide), Nat.mod_lt _ (by decide), Nat.mod_lt _ (by decide), Nat.mod_lt _ (by decide), Nat.mod_lt _ (by decide)⟩
theorem fold_ok (s : St) (bl : List UInt8) : (fold s bl).ok := addSt_ok _ _
theorem iv_ok : iv.ok := by constructor <;> decide
theorem kTab_lt : ∀ x ∈ kTab, x < 4294967296 := by decide
theorem kTab_getD_lt (j : Nat) : kTab.getD j 0 < 4294967296 := by
  by_cases h : j < kTab.length
  · rw [List.getD_eq_getElem?_getD, List.getElem?_eq_getElem h]; exact kTab_lt _ (List.getElem_mem h)
  · rw [List.getD_eq_getElem?_getD, List.getElem?_eq_none (by omega)]; decide
end Go.Proofs.YtbodgecbakcaaaaGreatDoor.Sha

/- THE PLAIN MATHEMATICS OF A HASHER: what it holds behind some bytes. -/
namespace Go.Proofs.YtbodgecbakcaaaaGreatDoor.Sha
theorem foldAll_last : ∀ (k : Nat) (s : St) (l : List UInt8), foldAll s (k + 1) l = fold (foldAll s k l) ((l.drop (64 * k)).take 64)
  | 0, s, l => by simp [foldAll]
  | k + 1, s, l => by
    rw [foldAll, foldAll_last k, foldAll, List.drop_drop]
    congr 3
    omega
theorem foldAll_append : ∀ (k : Nat) (s : St) (l u : List UInt8), 64 * k ≤ l.length → foldAll s k (l ++ u) = foldAll s k l
  | 0, _, _, _, _ => rfl
  | k + 1, s, l, u, h => by
    rw [foldAll, foldAll, List.take_append_of_le_length (by omega), List.drop_append_of_le_length (by omega), foldAll_append k _ _ _ (by simp; omega)]
structure HS (t : List UInt8) (st : St) (rest : List UInt8) : Prop where
  ok : st.ok
  len : rest.length = 64
  tail : rest.take (t.length % 64) = t.drop (64 * (t.length / 64))
  state : 64 ≤ t.length → st = foldAll iv (t.length / 64) t
theorem HS.none : HS [] ⟨0, 0, 0, 0, 0, 0, 0, 0⟩ (List.replicate 64 0) :=
  ⟨by constructor <;> decide, by simp, by simp, by simp⟩
def over (rest : List UInt8) (at' : Nat) (u : List UInt8) : List UInt8 := rest.take at' ++ u ++ rest.drop (at' + u.length)
theorem over_length (rest : List UInt8) (at' : Nat) (u : List UInt8) (h : at' + u.length ≤ rest.length) : (over rest at' u).length = rest.length := by
  simp [over]; omega
theorem HS.part {t : List UInt8} {st : St} {rest : List UInt8} (h : HS t st rest) (u : List UInt8) (hu : t.length % 64 + u.length < 64) : HS (t ++ u) st (over rest (t.length % 64) u) := by
  have hl := h.len
  have e1 : (t ++ u).length % 64 = t.length % 64 + u.length := by simp; omega
  have e2 : (t ++ u).length / 64 = t.length / 64 := by simp; omega
  refine ⟨h.ok, by rw [over_length _ _ _ (by omega)]; exact hl, ?_, ?_⟩
  · rw [e1, e2, over, List.take_append_of_le_length (by simp; omega), List.take_of_length_le (by simp; omega), h.tail, List.drop_append_of_le_length (by omega)]
  · intro h64
    rw [e2, foldAll_append _ _ _ _ (by omega)]
    exact h.state (by simp at h64; omega)
theorem HS.full {t : List UInt8} {st : St} {rest : List UInt8} (h : HS t st rest) (u : List UInt8) (hu : t.length % 64 + u.length = 64) :
    HS (t ++ u) (fold (if t.length < 64 then iv else st) (over rest (t.length % 64) u)) (over rest (t.length % 64) u) := by
  have hl := h.len
  have e1 : (t ++ u).length % 64 = 0 := by simp; omega
  have e2 : (t ++ u).length / 64 = t.length / 64 + 1 := by simp; omega
  have hs : (if t.length < 64 then iv else st) = foldAll iv (t.length / 64) t := by
    split
    · rw [show t.length / 64 = 0 from by omega]; rfl
    · exact h.state (by omega)
  have ho : over rest (t.length % 64) u = t.drop (64 * (t.length / 64)) ++ u := by
    have hd : rest.drop (t.length % 64 + u.length) = [] := List.drop_eq_nil_of_le (by omega)
    rw [over, h.tail, hd, List.append_nil]
  refine ⟨fold_ok _ _, by rw [over_length _ _ _ (by omega)]; exact hl, ?_, ?_⟩
  · rw [e1, e2, List.drop_eq_nil_of_le (by simp; omega)]; simp
  · intro _
    rw [e2, foldAll_last, hs, ho, foldAll_append _ _ _ _ (by omega), List.drop_append_of_le_length (by omega), List.take_of_length_le (by simp; omega)]
theorem filling_length (n : Nat) : (filling n).length = 9 + (119 - n % 64) % 64 := by
  simp [filling, be]; omega
theorem filling_mod (n : Nat) : (n + (filling n).length) % 64 = 0 ∧ 9 ≤ (filling n).length ∧ (filling n).length ≤ 72 := by
  rw [filling_length]; omega
theorem HS.sum {t : List UInt8} {st : St} {rest : List UInt8} (h : HS (t ++ filling t.length) st rest) : st.bytes = sha t := by
  have hf := filling_mod t.length
  have e := h.state (by simp; omega)
  rw [e, sha]; simp
theorem be_length (n : Nat) : ∀ k, (be n k).length = k
  | 0 => rfl
  | k + 1 => by simp [be, be_length n k]
theorem bytes_length (s : St) : s.bytes.length = 32 := by simp [St.bytes, be_length]
theorem bytes_at (s : St) (i : Nat) (hi : i < 32) : s.bytes.getD i 0 = UInt8.ofNat (s.l.getD (i / 4) 0 / 2 ^ (8 * (3 - i % 4))) := by
  have h : i = 0 ∨ i = 1 ∨ i = 2 ∨ i = 3 ∨ i = 4 ∨ i = 5 ∨ i = 6 ∨ i = 7 ∨ i = 8 ∨ i = 9 ∨ i = 10 ∨ i = 11 ∨ i = 12 ∨ i = 13 ∨ i = 14 ∨ i = 15 ∨ i = 16 ∨ i = 17 ∨ i = 18 ∨ i = 19 ∨ i = 20 ∨ i = 21 ∨ i = 22 ∨ i = 23 ∨ i = 24 ∨ i = 25 ∨ i = 26 ∨ i = 27 ∨ i = 28 ∨ i = 29 ∨ i = 30 ∨ i = 31 := by omega
  rcases h with rfl | rfl | rfl | rfl | rfl | rfl | rfl | rfl | rfl | rfl | rfl | rfl | rfl | rfl | rfl | rfl | rfl | rfl | rfl | rfl | rfl | rfl | rfl | rfl | rfl | rfl | rfl | rfl | rfl | rfl | rfl | rfl <;> rfl
theorem l_lt {s : St} (h : s.ok) (j : Nat) : s.l.getD j 0 < 4294967296 := by
  match j with
  | 0 => exact h.a
  | 1 => exact h.b
  | 2 => exact h.c
  | 3 => exact h.d
  | 4 => exact h.e
  | 5 => exact h.f
  | 6 => exact h.g
  | 7 => exact h.h
  | j + 8 => show 0 < 4294967296; decide
theorem byte_walk (x m : Nat) : IntKind.u8.wrap ((x : Int) / 2 ^ m) = (((UInt8.ofNat (x / 2 ^ m)).toNat : Nat) : Int) := by
  rw [IntKind.wrap_u8']
  have e : (x : Int) / 2 ^ m = ((x / 2 ^ m : Nat) : Int) := by rw [Int.natCast_ediv, Int.natCast_pow]; rfl
  rw [e]
  simp [UInt8.toNat_ofNat']
theorem sha_length (l : List UInt8) : (sha l).length = 32 := by
  simp [sha, bytes_length]
def fillTo (n z k : Nat) : List UInt8 := (128 :: List.replicate (z + 8 - k) 0) ++ (be (8 * n) k ++ List.replicate (63 - z) 0)
theorem fillTo_length (n z k : Nat) (hz : z < 64) (hk : k ≤ 8) : (fillTo n z k).length = 72 := by simp [fillTo, be_length]; omega
theorem fillTo_start (n z : Nat) (hz : z < 64) : fillTo n z 0 = 128 :: List.replicate 71 0 := by
  have : List.replicate (z + 8) (0 : UInt8) ++ List.replicate (63 - z) 0 = List.replicate 71 0 := by
    rw [List.replicate_append_replicate]; congr 1; omega
  simp [fillTo, be, this]
theorem fillTo_end (n : Nat) : (fillTo n ((119 - n % 64) % 64) 8).take (9 + (119 - n % 64) % 64) = filling n := by
  generalize hz : (119 - n % 64) % 64 = z
  rw [fillTo, filling, hz]
  rw [← List.append_assoc, List.take_append_of_le_length (by simp [be_length]; omega), List.take_of_length_le (by simp [be_length]; omega)]
  simp
theorem fill_walk (n k : Nat) : (n : Int) * 8 / 2 ^ (8 * k) % 256 = (((UInt8.ofNat (8 * n / 256 ^ k)).toNat : Nat) : Int) := by
  have e : (n : Int) * 8 / 2 ^ (8 * k) = ((8 * n / 256 ^ k : Nat) : Int) := by
    rw [Int.natCast_ediv, Int.natCast_pow, Int.natCast_mul, Int.mul_comm, Nat.mul_comm 8 k]
    congr 1
    rw [show (((256 : Nat) : Int)) = 2 ^ 8 from rfl, ← Int.pow_mul, Nat.mul_comm]
  rw [e]
  simp [UInt8.toNat_ofNat']
end Go.Proofs.YtbodgecbakcaaaaGreatDoor.Sha

/- THE PLAIN MATHEMATICS OF THE REFERENCE's WORDS: 64-bit ints that stay below 2^63. -/
namespace Go.Proofs.YtbodgecbakcaaaaGreatDoor.Sha
open Go
theorem i64_small (n : Nat) (h : n < 9223372036854775808) : IntKind.i64.wrap (n : Int) = (n : Int) := by rw [IntKind.wrap_i64]; omega
theorem i64_or_nat (a b : Nat) (ha : a < 9223372036854775808) (hb : b < 9223372036854775808) : bits .or .i64 (a : Int) (b : Int) = ((a ||| b : Nat) : Int) := by
  have hx : a ||| b < 2 ^ 63 := Nat.or_lt_two_pow (by omega) (by omega)
  show IntKind.i64.wrap ((BitVec.ofInt 64 (a : Int) ||| BitVec.ofInt 64 (b : Int)).toNat : Int) = _
  rw [BitVec.toNat_or, ofInt_u64 a (by omega), ofInt_u64 b (by omega)]
  exact i64_small _ hx
theorem i64_and_nat (a b : Nat) (ha : a < 9223372036854775808) (hb : b < 9223372036854775808) : bits .and .i64 (a : Int) (b : Int) = ((a &&& b : Nat) : Int) := by
  have hx : a &&& b < 2 ^ 63 := Nat.and_lt_two_pow _ (by omega)
  show IntKind.i64.wrap ((BitVec.ofInt 64 (a : Int) &&& BitVec.ofInt 64 (b : Int)).toNat : Int) = _
  rw [BitVec.toNat_and, ofInt_u64 a (by omega), ofInt_u64 b (by omega)]
  exact i64_small _ hx
theorem i64_xor_nat (a b : Nat) (ha : a < 9223372036854775808) (hb : b < 9223372036854775808) : bits .xor .i64 (a : Int) (b : Int) = ((a ^^^ b : Nat) : Int) := by
  have hx : a ^^^ b < 2 ^ 63 := Nat.xor_lt_two_pow (by omega) (by omega)
  show IntKind.i64.wrap ((BitVec.ofInt 64 (a : Int) ^^^ BitVec.ofInt 64 (b : Int)).toNat : Int) = _
  rw [BitVec.toNat_xor, ofInt_u64 a (by omega), ofInt_u64 b (by omega)]
  exact i64_small _ hx
theorem low_walk (a : Nat) (ha : a < 9223372036854775808) : bits .and .i64 (a : Int) 4294967295 = ((a % 4294967296 : Nat) : Int) := by
  rw [show (4294967295 : Int) = ((4294967295 : Nat) : Int) from rfl, i64_and_nat _ _ ha (by decide)]
  exact congrArg Int.ofNat (Nat.and_two_pow_sub_one_eq_mod a 32)
theorem mul_pow_lt (x k : Nat) (hx : x < 4294967296) (hk : k ≤ 31) : x * 2 ^ k < 9223372036854775808 := by
  have : 2 ^ k ≤ 2 ^ 31 := Nat.pow_le_pow_right (by decide) hk
  calc x * 2 ^ k ≤ x * 2 ^ 31 := Nat.mul_le_mul_left _ this
    _ < 9223372036854775808 := by omega
theorem rror_walk (x n : Nat) (hx : x < 4294967296) (h1 : 1 ≤ n) : bits .and .i64 (bits .or .i64 ((x : Int) / 2 ^ n) ((x : Int) * 2 ^ (32 - n))) 4294967295 = ((ror n x : Nat) : Int) := by
  have e1 : (x : Int) / 2 ^ n = ((x / 2 ^ n : Nat) : Int) := by rw [Int.natCast_ediv, Int.natCast_pow]; rfl
  have e2 : (x : Int) * 2 ^ (32 - n) = ((x * 2 ^ (32 - n) : Nat) : Int) := by rw [Int.natCast_mul, Int.natCast_pow]; rfl
  have h2 : x / 2 ^ n < 4294967296 := Nat.lt_of_le_of_lt (Nat.div_le_self _ _) hx
  have h3 := mul_pow_lt x (32 - n) hx (by omega)
  rw [e1, e2, i64_or_nat _ _ (by omega) h3, low_walk _ (Nat.or_lt_two_pow (n := 63) (by omega) h3)]
  have := Nat.or_mod_two_pow (a := x / 2 ^ n) (b := x * 2 ^ (32 - n)) (n := 32)
  rw [show (4294967296 : Nat) = 2 ^ 32 from rfl, this, ror, Nat.or_comm, Nat.mod_eq_of_lt (a := x / 2 ^ n) h2]
theorem rs0_walk (x : Nat) (hx : x < 4294967296) : bits .xor .i64 (bits .xor .i64 (ror 7 x : Nat) (ror 18 x : Nat)) ((x : Int) / 8) = ((s0 x : Nat) : Int) := by
  have a := ror_lt (n := 7) hx
  have b := ror_lt (n := 18) hx
  have c := xor_lt32 a b
  rw [show (x : Int) / 8 = ((x / 8 : Nat) : Int) from by omega, i64_xor_nat _ _ (by omega) (by omega), i64_xor_nat _ _ (by omega) (by omega)]
  rfl
theorem rs1_walk (x : Nat) (hx : x < 4294967296) : bits .xor .i64 (bits .xor .i64 (ror 17 x : Nat) (ror 19 x : Nat)) ((x : Int) / 1024) = ((s1 x : Nat) : Int) := by
  have a := ror_lt (n := 17) hx
  have b := ror_lt (n := 19) hx
  have c := xor_lt32 a b
  rw [show (x : Int) / 1024 = ((x / 1024 : Nat) : Int) from by omega, i64_xor_nat _ _ (by omega) (by omega), i64_xor_nat _ _ (by omega) (by omega)]
  rfl
theorem rS0_walk (x : Nat) (hx : x < 4294967296) : bits .xor .i64 (bits .xor .i64 (ror 2 x : Nat) (ror 13 x : Nat)) (ror 22 x : Nat) = ((S0 x : Nat) : Int) := by
  have a := ror_lt (n := 2) hx
  have b := ror_lt (n := 13) hx
  have c := xor_lt32 a b
  have d := ror_lt (n := 22) hx
  rw [i64_xor_nat _ _ (by omega) (by omega), i64_xor_nat _ _ (by omega) (by omega)]
  rfl
theorem rS1_walk (x : Nat) (hx : x < 4294967296) : bits .xor .i64 (bits .xor .i64 (ror 6 x : Nat) (ror 11 x : Nat)) (ror 25 x : Nat) = ((S1 x : Nat) : Int) := by
  have a := ror_lt (n := 6) hx
  have b := ror_lt (n := 11) hx
  have c := xor_lt32 a b
  have d := ror_lt (n := 25) hx
  rw [i64_xor_nat _ _ (by omega) (by omega), i64_xor_nat _ _ (by omega) (by omega)]
  rfl
theorem rword_walk (x0 x1 x2 x3 : Nat) (h0 : x0 < 256) (h1 : x1 < 256) (h2 : x2 < 256) (h3 : x3 < 256) :
    bits .or .i64 (bits .or .i64 (bits .or .i64 ((x0 : Int) * 16777216) ((x1 : Int) * 65536)) ((x2 : Int) * 256)) (x3 : Int) = ((word x0 x1 x2 x3 : Nat) : Int) := by
  have a : x0 * 16777216 ||| x1 * 65536 < 4294967296 := or_lt32 (by omega) (by omega)
  have b : (x0 * 16777216 ||| x1 * 65536) ||| x2 * 256 < 4294967296 := or_lt32 a (by omega)
  rw [show (x0 : Int) * 16777216 = ((x0 * 16777216 : Nat) : Int) from by omega, show (x1 : Int) * 65536 = ((x1 * 65536 : Nat) : Int) from by omega, show (x2 : Int) * 256 = ((x2 * 256 : Nat) : Int) from by omega,
    i64_or_nat _ _ (by omega) (by omega), i64_or_nat _ _ (by omega) (by omega), i64_or_nat _ _ (by omega) (by omega)]
  rfl
theorem rch_walk (e f g : Nat) (he : e < 4294967296) (hf : f < 4294967296) (hg : g < 4294967296) :
    bits .xor .i64 (bits .and .i64 (e : Int) (f : Int)) (bits .and .i64 (bits .xor .i64 4294967295 (e : Int)) (g : Int)) = ((ch e f g : Nat) : Int) := by
  have a : e &&& f < 4294967296 := and_lt32 he
  have b : 4294967295 ^^^ e < 4294967296 := xor_lt32 (by decide) he
  have c : (4294967295 ^^^ e) &&& g < 4294967296 := and_lt32 b
  rw [show (4294967295 : Int) = ((4294967295 : Nat) : Int) from rfl, i64_xor_nat _ _ (by decide) (by omega), i64_and_nat _ _ (by omega) (by omega), i64_and_nat _ _ (by omega) (by omega), i64_xor_nat _ _ (by omega) (by omega)]
  rfl
theorem rmaj_walk (a b c : Nat) (ha : a < 4294967296) (hb : b < 4294967296) (hc : c < 4294967296) :
    bits .xor .i64 (bits .xor .i64 (bits .and .i64 (a : Int) (b : Int)) (bits .and .i64 (a : Int) (c : Int))) (bits .and .i64 (b : Int) (c : Int)) = ((maj a b c : Nat) : Int) := by
  have d : a &&& b < 4294967296 := and_lt32 ha
  have e : a &&& c < 4294967296 := and_lt32 ha
  have f : b &&& c < 4294967296 := and_lt32 hb
  have g := xor_lt32 d e
  rw [i64_and_nat _ _ (by omega) (by omega), i64_and_nat _ _ (by omega) (by omega), i64_and_nat _ _ (by omega) (by omega), i64_xor_nat _ _ (by omega) (by omega), i64_xor_nat _ _ (by omega) (by omega)]
  rfl
theorem ch_lt (e f g : Nat) (he : e < 4294967296) : ch e f g < 4294967296 := xor_lt32 (and_lt32 he) (and_lt32 (xor_lt32 (by decide) he))
theorem maj_lt (a b c : Nat) (ha : a < 4294967296) (hb : b < 4294967296) : maj a b c < 4294967296 := xor_lt32 (xor_lt32 (and_lt32 ha) (and_lt32 ha)) (and_lt32 hb)
theorem low2 (a b : Nat) (ha : a < 4294967296) (hb : b < 4294967296) : bits .and .i64 ((a : Int) + (b : Int)) 4294967295 = (((a + b) % 4294967296 : Nat) : Int) := by
  rw [show (a : Int) + (b : Int) = ((a + b : Nat) : Int) from by omega]; exact low_walk _ (by omega)
theorem low4 (a b c d : Nat) (ha : a < 4294967296) (hb : b < 4294967296) (hc : c < 4294967296) (hd : d < 4294967296) : bits .and .i64 ((a : Int) + (b : Int) + (c : Int) + (d : Int)) 4294967295 = (((a + b + c + d) % 4294967296 : Nat) : Int) := by
  rw [show (a : Int) + (b : Int) + (c : Int) + (d : Int) = ((a + b + c + d : Nat) : Int) from by omega]; exact low_walk _ (by omega)
theorem low5 (a b c d e : Nat) (ha : a < 4294967296) (hb : b < 4294967296) (hc : c < 4294967296) (hd : d < 4294967296) (he : e < 4294967296) : bits .and .i64 ((a : Int) + (b : Int) + (c : Int) + (d : Int) + (e : Int)) 4294967295 = (((a + b + c + d + e) % 4294967296 : Nat) : Int) := by
  rw [show (a : Int) + (b : Int) + (c : Int) + (d : Int) + (e : Int) = ((a + b + c + d + e : Nat) : Int) from by omega]; exact low_walk _ (by omega)
theorem wrap2 (a b : Nat) (ha : a < 4294967296) (hb : b < 4294967296) : IntKind.i64.wrap ((a : Int) + (b : Int)) = (a : Int) + (b : Int) := by rw [IntKind.wrap_i64]; omega
theorem wrap3 (a b c : Nat) (ha : a < 4294967296) (hb : b < 4294967296) (hc : c < 4294967296) : IntKind.i64.wrap ((a : Int) + (b : Int) + (c : Int)) = (a : Int) + (b : Int) + (c : Int) := by rw [IntKind.wrap_i64]; omega
theorem wrap4 (a b c d : Nat) (ha : a < 4294967296) (hb : b < 4294967296) (hc : c < 4294967296) (hd : d < 4294967296) : IntKind.i64.wrap ((a : Int) + (b : Int) + (c : Int) + (d : Int)) = (a : Int) + (b : Int) + (c : Int) + (d : Int) := by rw [IntKind.wrap_i64]; omega
end Go.Proofs.YtbodgecbakcaaaaGreatDoor.Sha
