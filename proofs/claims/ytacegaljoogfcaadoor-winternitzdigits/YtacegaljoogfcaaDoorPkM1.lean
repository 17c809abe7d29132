import Derived.Laws.BitsAllLaws
import Derived.Laws.Entries
/- THE PLAIN MATHEMATICS OF LAYER 1: SHA-256 over naturals; nothing of the program. -/
namespace Go.Proofs.YtacegaljoogfcaaDoor.Sha
open Go

def ror (n x : Nat) : Nat := (x * 2 ^ (32 - n) % 4294967296) ||| (x / 2 ^ n)

theorem or_lt32 {a b : Nat} (ha : a < 4294967296) (hb : b < 4294967296) : a ||| b < 4294967296 := Nat.or_lt_two_pow (n := 32) ha hb
theorem xor_lt32 {a b : Nat} (ha : a < 4294967296) (hb : b < 4294967296) : a ^^^ b < 4294967296 := Nat.xor_lt_two_pow (n := 32) ha hb
theorem and_lt32 {a b : Nat} (ha : a < 4294967296) : a &&& b < 4294967296 := Nat.lt_of_le_of_lt Nat.and_le_left ha

theorem ror_lt {n x : Nat} (hx : x < 4294967296) : ror n x < 4294967296 :=
  or_lt32 (Nat.mod_lt _ (by decide)) (Nat.lt_of_le_of_lt (Nat.div_le_self _ _) hx)

def word (b0 b1 b2 b3 : Nat) : Nat := ((b0 * 16777216 ||| b1 * 65536) ||| b2 * 256) ||| b3
def s0 (x : Nat) : Nat := (ror 7 x ^^^ ror 18 x) ^^^ x / 8
def s1 (x : Nat) : Nat := (ror 17 x ^^^ ror 19 x) ^^^ x / 1024
def S0 (x : Nat) : Nat := (ror 2 x ^^^ ror 13 x) ^^^ ror 22 x
def S1 (x : Nat) : Nat := (ror 6 x ^^^ ror 11 x) ^^^ ror 25 x
def ch (e f g : Nat) : Nat := (e &&& f) ^^^ ((4294967295 ^^^ e) &&& g)
def maj (a b c : Nat) : Nat := ((a &&& b) ^^^ (a &&& c)) ^^^ (b &&& c)

/-- the next word behind the words so far -/
def wNext (bl : List UInt8) (l : List Nat) (t : Nat) : Nat :=
  if t < 16 then word (bl.getD (4 * t) 0).toNat (bl.getD (4 * t + 1) 0).toNat (bl.getD (4 * t + 2) 0).toNat (bl.getD (4 * t + 3) 0).toNat
  else (s1 (l.getD (t - 2) 0) + l.getD (t - 7) 0 + s0 (l.getD (t - 15) 0) + l.getD (t - 16) 0) % 4294967296
def sched (bl : List UInt8) : Nat → List Nat
  | 0 => []
  | t + 1 => sched bl t ++ [wNext bl (sched bl t) t]

structure St where
  a : Nat
  b : Nat
  c : Nat
  d : Nat
  e : Nat
  f : Nat
  g : Nat
  h : Nat

def St.l (s : St) : List Nat := [s.a, s.b, s.c, s.d, s.e, s.f, s.g, s.h]
structure St.ok (s : St) : Prop where
  a : s.a < 4294967296
  b : s.b < 4294967296
  c : s.c < 4294967296
  d : s.d < 4294967296
  e : s.e < 4294967296
  f : s.f < 4294967296
  g : s.g < 4294967296
  h : s.h < 4294967296
def xOf (k w : Nat) (s : St) : Nat := (s.h + S1 s.e + ch s.e s.f s.g + k + w) % 4294967296
def yOf (s : St) : Nat := (S0 s.a + maj s.a s.b s.c) % 4294967296
def step (k w : Nat) (s : St) : St := ⟨(xOf k w s + yOf s) % 4294967296, s.a, s.b, s.c, (s.d + xOf k w s) % 4294967296, s.e, s.f, s.g⟩
def kTab : List Nat := [1116352408, 1899447441, 3049323471, 3921009573, 961987163, 1508970993, 2453635748, 2870763221,
  3624381080, 310598401, 607225278, 1426881987, 1925078388, 2162078206, 2614888103, 3248222580,
  3835390401, 4022224774, 264347078, 604807628, 770255983, 1249150122, 1555081692, 1996064986,
  2554220882, 2821834349, 2952996808, 3210313671, 3336571891, 3584528711, 113926993, 338241895,
  666307205, 773529912, 1294757372, 1396182291, 1695183700, 1986661051, 2177026350, 2456956037,
  2730485921, 2820302411, 3259730800, 3345764771, 3516065817, 3600352804, 4094571909, 275423344,
  430227734, 506948616, 659060556, 883997877, 958139571, 1322822218, 1537002063, 1747873779,
  1955562222, 2024104815, 2227730452, 2361852424, 2428436474, 2756734187, 3204031479, 3329325298]
def rnds (ws : List Nat) (s : St) : Nat → St
  | 0 => s
  | t + 1 => step (kTab.getD t 0) (ws.getD t 0) (rnds ws s t)
def addSt (s v : St) : St := ⟨(s.a + v.a) % 4294967296, (s.b + v.b) % 4294967296, (s.c + v.c) % 4294967296, (s.d + v.d) % 4294967296,
  (s.e + v.e) % 4294967296, (s.f + v.f) % 4294967296, (s.g + v.g) % 4294967296, (s.h + v.h) % 4294967296⟩
def fold (s : St) (bl : List UInt8) : St := addSt s (rnds (sched bl 64) s 64)
def iv : St := ⟨1779033703, 3144134277, 1013904242, 2773480762, 1359893119, 2600822924, 528734635, 1541459225⟩
def foldAll (s : St) : Nat → List UInt8 → St
  | 0, _ => s
  | n + 1, l => foldAll (fold s (l.take 64)) n (l.drop 64)
def be (n : Nat) : Nat → List UInt8
  | 0 => []
  | k + 1 => UInt8.ofNat (n / 256 ^ k) :: be n k
/-- what stands behind a text of n bytes -/
def filling (n : Nat) : List UInt8 := 128 :: (List.replicate ((119 - n % 64) % 64) 0 ++ be (8 * n) 8)
def St.bytes (s : St) : List UInt8 := be s.a 4 ++ be s.b 4 ++ be s.c 4 ++ be s.d 4 ++ be s.e 4 ++ be s.f 4 ++ be s.g 4 ++ be s.h 4
def sha (l : List UInt8) : List UInt8 :=
  (foldAll iv ((l.length + (filling l.length).length) / 64) (l ++ filling l.length)).bytes

/-- what the translated rotation says of a word, as the walk leaves it -/
theorem ror_walk (x n : Nat) (hx : x < 4294967296) :
    bits .or .u32 (IntKind.u32.wrap ((x : Int) * 2 ^ (32 - n))) ((x : Int) / 2 ^ n) = ((ror n x : Nat) : Int) := by
  rw [IntKind.wrap_u32']
  have e1 : ((x : Int) * 2 ^ (32 - n)) % 4294967296 = ((x * 2 ^ (32 - n) % 4294967296 : Nat) : Int) := by
    rw [Int.natCast_emod, Int.natCast_mul, Int.natCast_pow]; rfl
  have e2 : (x : Int) / 2 ^ n = ((x / 2 ^ n : Nat) : Int) := by rw [Int.natCast_ediv, Int.natCast_pow]; rfl
  rw [e1, e2, u32_or_nat _ _ (Nat.mod_lt _ (by decide)) (Nat.lt_of_le_of_lt (Nat.div_le_self _ _) hx)]
  rfl

theorem mask_walk (n : Nat) (h1 : 1 ≤ n) (h2 : n ≤ 31) : bits .and .u64 (IntKind.u64.wrap (-(n : Int))) 31 = ((32 - n : Nat) : Int) := by
  have e : IntKind.u64.wrap (-(n : Int)) = ((18446744073709551616 - n : Nat) : Int) := by
    rw [IntKind.wrap_u64]; omega
  rw [e, show (31 : Int) = ((31 : Nat) : Int) from rfl, u64_and_nat _ _ (by omega) (by omega), nat_mask5]
  omega

theorem wrapu (n : Nat) (h : n < 4294967296) : IntKind.u32.wrap (n : Int) = (n : Int) := by
  rw [IntKind.wrap_u32']; omega
theorem wrapu_mul (n c : Nat) (h : n * c < 4294967296) : IntKind.u32.wrap ((n : Int) * (c : Int)) = ((n * c : Nat) : Int) := by
  rw [← Int.natCast_mul]; exact wrapu _ h
theorem word_walk (x0 x1 x2 x3 : Nat) (h0 : x0 < 256) (h1 : x1 < 256) (h2 : x2 < 256) (h3 : x3 < 256) :
    bits .or .u32 (bits .or .u32 (bits .or .u32 ((x0 : Int) * 16777216) ((x1 : Int) * 65536)) ((x2 : Int) * 256)) (x3 : Int) = ((word x0 x1 x2 x3 : Nat) : Int) := by
  rw [show (x0 : Int) * 16777216 = ((x0 * 16777216 : Nat) : Int) from by omega, show (x1 : Int) * 65536 = ((x1 * 65536 : Nat) : Int) from by omega, show (x2 : Int) * 256 = ((x2 * 256 : Nat) : Int) from by omega,
    u32_or_nat _ _ (by omega) (by omega), u32_or_nat _ _ (or_lt32 (by omega) (by omega)) (by omega), u32_or_nat _ _ (or_lt32 (or_lt32 (by omega) (by omega)) (by omega)) (by omega)]
  rfl
theorem word_lt (x0 x1 x2 x3 : Nat) (h0 : x0 < 256) (h1 : x1 < 256) (h2 : x2 < 256) (h3 : x3 < 256) : word x0 x1 x2 x3 < 4294967296 :=
  or_lt32 (or_lt32 (or_lt32 (by omega) (by omega)) (by omega)) (by omega)

theorem s0_walk (x : Nat) (hx : x < 4294967296) : bits .xor .u32 (bits .xor .u32 (ror 7 x : Nat) (ror 18 x : Nat)) ((x : Int) / 8) = ((s0 x : Nat) : Int) := by
  rw [show (x : Int) / 8 = ((x / 8 : Nat) : Int) from by omega, u32_xor_nat _ _ (ror_lt hx) (ror_lt hx), u32_xor_nat _ _ (xor_lt32 (ror_lt hx) (ror_lt hx)) (by omega)]
  rfl
theorem s1_walk (x : Nat) (hx : x < 4294967296) : bits .xor .u32 (bits .xor .u32 (ror 17 x : Nat) (ror 19 x : Nat)) ((x : Int) / 1024) = ((s1 x : Nat) : Int) := by
  rw [show (x : Int) / 1024 = ((x / 1024 : Nat) : Int) from by omega, u32_xor_nat _ _ (ror_lt hx) (ror_lt hx), u32_xor_nat _ _ (xor_lt32 (ror_lt hx) (ror_lt hx)) (by omega)]
  rfl
theorem S0_walk (x : Nat) (hx : x < 4294967296) : bits .xor .u32 (bits .xor .u32 (ror 2 x : Nat) (ror 13 x : Nat)) (ror 22 x : Nat) = ((S0 x : Nat) : Int) := by
  rw [u32_xor_nat _ _ (ror_lt hx) (ror_lt hx), u32_xor_nat _ _ (xor_lt32 (ror_lt hx) (ror_lt hx)) (ror_lt hx)]
  rfl
theorem S1_walk (x : Nat) (hx : x < 4294967296) : bits .xor .u32 (bits .xor .u32 (ror 6 x : Nat) (ror 11 x : Nat)) (ror 25 x : Nat) = ((S1 x : Nat) : Int) := by
  rw [u32_xor_nat _ _ (ror_lt hx) (ror_lt hx), u32_xor_nat _ _ (xor_lt32 (ror_lt hx) (ror_lt hx)) (ror_lt hx)]
  rfl
theorem s0_lt (x : Nat) (hx : x < 4294967296) : s0 x < 4294967296 := xor_lt32 (xor_lt32 (ror_lt hx) (ror_lt hx)) (by omega)
theorem s1_lt (x : Nat) (hx : x < 4294967296) : s1 x < 4294967296 := xor_lt32 (xor_lt32 (ror_lt hx) (ror_lt hx)) (by omega)
theorem S0_lt (x : Nat) (hx : x < 4294967296) : S0 x < 4294967296 := xor_lt32 (xor_lt32 (ror_lt hx) (ror_lt hx)) (ror_lt hx)
theorem S1_lt (x : Nat) (hx : x < 4294967296) : S1 x < 4294967296 := xor_lt32 (xor_lt32 (ror_lt hx) (ror_lt hx)) (ror_lt hx)

theorem sum_walk (a b : Nat) : IntKind.u32.wrap ((a : Int) + (b : Int)) = (((a + b) % 4294967296 : Nat) : Int) := by
  rw [IntKind.wrap_u32']; omega
theorem sum4_mod (a b c d : Nat) : ((((a : Int) + (b : Int)) % 4294967296 + (c : Int)) % 4294967296 + (d : Int)) % 4294967296 = (((a + b + c + d) % 4294967296 : Nat) : Int) := by omega
theorem sum_walk' (a b : Nat) : ((a : Int) + (b : Int)) % 4294967296 = (((a + b) % 4294967296 : Nat) : Int) := by omega

theorem sched_length (bl : List UInt8) : ∀ k, (sched bl k).length = k
  | 0 => rfl
  | k + 1 => by simp [sched, sched_length bl k]
theorem sched_lt (bl : List UInt8) : ∀ k, ∀ x ∈ sched bl k, x < 4294967296
  | 0 => by simp [sched]
  | k + 1 => by
    intro x hx
    rw [sched, List.mem_append, List.mem_singleton] at hx
    rcases hx with hx | rfl
    · exact sched_lt bl k x hx
    · unfold wNext
      split
      · exact word_lt _ _ _ _ (UInt8.toNat_lt _) (UInt8.toNat_lt _) (UInt8.toNat_lt _) (UInt8.toNat_lt _)
      · exact Nat.mod_lt _ (by decide)
theorem sched_getD_lt (bl : List UInt8) (k j : Nat) : (sched bl k).getD j 0 < 4294967296 := by
  by_cases h : j < (sched bl k).length
  · rw [List.getD_eq_getElem?_getD, List.getElem?_eq_getElem h]; exact sched_lt bl k _ (List.getElem_mem h)
  · rw [List.getD_eq_getElem?_getD, List.getElem?_eq_none (by omega)]; decide
theorem ch_walk (e f g : Nat) (he : e < 4294967296) (hf : f < 4294967296) (hg : g < 4294967296) :
    bits .xor .u32 (bits .and .u32 (e : Int) (f : Int)) (bits .and .u32 (bits .xor .u32 (if IntKind.u32.signed = true then -1 else IntKind.u32.max) (e : Int)) (g : Int)) = ((ch e f g : Nat) : Int) := by
  have h : (if IntKind.u32.signed = true then -1 else IntKind.u32.max) = ((4294967295 : Nat) : Int) := by decide
  rw [h, u32_xor_nat _ _ (by decide) he, u32_and_nat _ _ he hf, u32_and_nat _ _ (xor_lt32 (by decide) he) hg, u32_xor_nat _ _ (and_lt32 he) (and_lt32 (xor_lt32 (by decide) he))]
  rfl
theorem stepA_walk (k w a b c d e f g h : Nat) : (((h : Int) + (S1 e : Nat) + (ch e f g : Nat) + (k : Int) + (w : Int)) % 4294967296 + (((S0 a : Nat) : Int) + (maj a b c : Nat)) % 4294967296) % 4294967296 = (((step k w ⟨a, b, c, d, e, f, g, h⟩).a : Nat) : Int) := by
  simp only [step, xOf, yOf]; omega
theorem stepE_walk (k w a b c d e f g h : Nat) : ((d : Int) + ((h : Int) + (S1 e : Nat) + (ch e f g : Nat) + (k : Int) + (w : Int)) % 4294967296) % 4294967296 = (((step k w ⟨a, b, c, d, e, f, g, h⟩).e : Nat) : Int) := by
  simp only [step, xOf]; omega
theorem maj_walk (a b c : Nat) (ha : a < 4294967296) (hb : b < 4294967296) (hc : c < 4294967296) :
    bits .xor .u32 (bits .xor .u32 (bits .and .u32 (a : Int) (b : Int)) (bits .and .u32 (a : Int) (c : Int))) (bits .and .u32 (b : Int) (c : Int)) = ((maj a b c : Nat) : Int) := by
  rw [u32_and_nat _ _ ha hb, u32_and_nat _ _ ha hc, u32_and_nat _ _ hb hc, u32_xor_nat _ _ (and_lt32 ha) (and_lt32 ha), u32_xor_nat _ _ (xor_lt32 (and_lt32 ha) (and_lt32 ha)) (and_lt32 hb)]
  rfl
theorem xOf_lt (k w : Nat) (s : St) : xOf k w s < 4294967296 := Nat.mod_lt _ (by decide)
theorem step_ok (k w : Nat) (s : St) (h : s.ok) : (step k w s).ok := ⟨Nat.mod_lt _ (by decide), h.a, h.b, h.c, Nat.mod_lt _ (by decide), h.e, h.f, h.g⟩
theorem rnds_ok (ws : List Nat) (s : St) (h : s.ok) : ∀ t, (rnds ws s t).ok
  | 0 => h
  | t + 1 => step_ok _ _ _ (rnds_ok ws s h t)
theorem addSt_ok (s v : St) : (addSt s v).ok := ⟨Nat.mod_lt _ (by decide), Nat.mod_lt _ (by decide), Nat.mod_lt _ (by decide), Nat.mod_lt _ (by decide), Nat.mod_lt _ (by decide), Nat.mod_lt _ (by decide), Nat.mod_lt _ (by decide), Nat.mod_lt _ (by decide)⟩
theorem fold_ok (s : St) (bl : List UInt8) : (fold s bl).ok := addSt_ok _ _
theorem iv_ok : iv.ok := by constructor <;> decide
theorem kTab_lt : ∀ x ∈ kTab, x < 4294967296 := by decide
theorem kTab_getD_lt (j : Nat) : kTab.getD j 0 < 4294967296 := by
  by_cases h : j < kTab.length
  · rw [List.getD_eq_getElem?_getD, List.getElem?_eq_getElem h]; exact kTab_lt _ (List.getElem_mem h)
  · rw [List.getD_eq_getElem?_getD, List.getElem?_eq_none (by omega)]; decide

theorem sha_empty : (sha []).map UInt8.toNat = [0xe3, 0xb0, 0xc4, 0x42, 0x98, 0xfc, 0x1c, 0x14, 0x9a, 0xfb, 0xf4, 0xc8, 0x99, 0x6f, 0xb9, 0x24, 0x27, 0xae, 0x41, 0xe4, 0x64, 0x9b, 0x93, 0x4c, 0xa4, 0x95, 0x99, 0x1b, 0x78, 0x52, 0xb8, 0x55] := by decide +kernel
end Go.Proofs.YtacegaljoogfcaaDoor.Sha
