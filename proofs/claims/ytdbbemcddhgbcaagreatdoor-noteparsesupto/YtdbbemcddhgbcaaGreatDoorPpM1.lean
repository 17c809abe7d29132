import Derived.Laws.BitsAllLaws
import Derived.Laws.Entries
import Derived.Test.YtdbbemcddhgbcaaGreatDoorProg
import Derived.WalkKit
import Derived.WalkSpells
import Derived.WalkLawsBesides
import Derived.Deep.RegionHeld3
import Derived.Deep.QuietTactic
import Derived.BigQuiet
import Derived.Deep.MidRow
import Derived.Deep.Light
/- THE PLAIN MATHEMATICS OF LAYER 1: SHA-256 over naturals; nothing of the program. -/
namespace Go.Proofs.YtdbbemcddhgbcaaGreatDoor.Sha
open Go

def ror (n x : Nat) : Nat := (x * 2 ^ (32 - n) % 4294967296) ||| (x / 2 ^ n)

theorem or_lt32 {a b : Nat} (ha : a < 4294967296) (hb : b < 4294967296) : a ||| b < 4294967296 := Nat.or_lt_two_pow (n := 32) ha hb
theorem xor_lt32 {a b : Nat} (ha : a < 4294967296) (hb : b < 4294967296) : a ^^^ b < 4294967296 := Nat.xor_lt_two_pow (n := 32) ha hb
theorem and_lt32 {a b : Nat} (ha : a < 4294967296) : a &&& b < 4294967296 := Nat.lt_of_le_of_lt Nat.and_le_left ha

theorem ror_lt {n x : Nat} (hx : x < 4294967296) : ror n x < 4294967296 :=
  or_lt32 (Nat.mod_lt _ (by decide)) (Nat.lt_of_le_of_lt (Nat.div_le_self _ _) hx)

def word (b0 b1 b2 b3 : Nat) : Nat := ((b0 * 16777216 ||| b1 * 65536) ||| b2 * 256) ||| b3
def s0 (x : Nat) : Nat := (ror 7 x ^^^ ror 18 x) ^^^ x / 8
def s1 (x : Nat) : Nat := (ror 17 x ^^^ ror 19 x) ^^^ x / 1024
def S0 (x : Nat) : Nat := (ror 2 x ^^^ ror 13 x) ^^^ ror 22 x
def S1 (x : Nat) : Nat := (ror 6 x ^^^ ror 11 x) ^^^ ror 25 x
def ch (e f g : Nat) : Nat := (e &&& f) ^^^ ((4294967295 ^^^ e) &&& g)
def maj (a b c : Nat) : Nat := ((a &&& b) ^^^ (a &&& c)) ^^^ (b &&& c)

/-- the next word behind the words so far -/
def wNext (bl : List UInt8) (l : List Nat) (t : Nat) : Nat :=
  if t < 16 then word (bl.getD (4 * t) 0).toNat (bl.getD (4 * t + 1) 0).toNat (bl.getD (4 * t + 2) 0).toNat (bl.getD (4 * t + 3) 0).toNat
  else (s1 (l.getD (t - 2) 0) + l.getD (t - 7) 0 + s0 (l.getD (t - 15) 0) + l.getD (t - 16) 0) % 4294967296
def sched (bl : List UInt8) : Nat → List Nat
  | 0 => []
  | t + 1 => sched bl t ++ [wNext bl (sched bl t) t]

structure St where
  a : Nat
  b : Nat
  c : Nat
  d : Nat
  e : Nat
  f : Nat
  g : Nat
  h : Nat

def St.l (s : St) : List Nat := [s.a, s.b, s.c, s.d, s.e, s.f, s.g, s.h]
structure St.ok (s : St) : Prop where
  a : s.a < 4294967296
  b : s.b < 4294967296
  c : s.c < 4294967296
  d : s.d < 4294967296
  e : s.e < 4294967296
  f : s.f < 4294967296
  g : s.g < 4294967296
  h : s.h < 4294967296
def xOf (k w : Nat) (s : St) : Nat := (s.h + S1 s.e + ch s.e s.f s.g + k + w) % 4294967296
def yOf (s : St) : Nat := (S0 s.a + maj s.a s.b s.c) % 4294967296
def step (k w : Nat) (s : St) : St := ⟨(xOf k w s + yOf s) % 4294967296, s.a, s.b, s.c, (s.d + xOf k w s) % 4294967296, s.e, s.f, s.g⟩
def kTab : List Nat := [1116352408, 1899447441, 3049323471, 3921009573, 961987163, 1508970993, 2453635748, 2870763221,
  3624381080, 310598401, 607225278, 1426881987, 1925078388, 2162078206, 2614888103, 3248222580,
  3835390401, 4022224774, 264347078, 604807628, 770255983, 1249150122, 1555081692, 1996064986,
  2554220882, 2821834349, 2952996808, 3210313671, 3336571891, 3584528711, 113926993, 338241895,
  666307205, 773529912, 1294757372, 1396182291, 1695183700, 1986661051, 2177026350, 2456956037,
  2730485921, 2820302411, 3259730800, 3345764771, 3516065817, 3600352804, 4094571909, 275423344,
  430227734, 506948616, 659060556, 883997877, 958139571, 1322822218, 1537002063, 1747873779,
  1955562222, 2024104815, 2227730452, 2361852424, 2428436474, 2756734187, 3204031479, 3329325298]
def rnds (ws : List Nat) (s : St) : Nat → St
  | 0 => s
  | t + 1 => step (kTab.getD t 0) (ws.getD t 0) (rnds ws s t)
def addSt (s v : St) : St := ⟨(s.a + v.a) % 4294967296, (s.b + v.b) % 4294967296, (s.c + v.c) % 4294967296, (s.d + v.d) % 4294967296,
  (s.e + v.e) % 4294967296, (s.f + v.f) % 4294967296, (s.g + v.g) % 4294967296, (s.h + v.h) % 4294967296⟩
def fold (s : St) (bl : List UInt8) : St := addSt s (rnds (sched bl 64) s 64)
def iv : St := ⟨1779033703, 3144134277, 1013904242, 2773480762, 1359893119, 2600822924, 528734635, 1541459225⟩
def foldAll (s : St) : Nat → List UInt8 → St
  | 0, _ => s
  | n + 1, l => foldAll (fold s (l.take 64)) n (l.drop 64)
def be (n : Nat) : Nat → List UInt8
  | 0 => []
  | k + 1 => UInt8.ofNat (n / 256 ^ k) :: be n k
/-- what stands behind a text of n bytes -/
def filling (n : Nat) : List UInt8 := 128 :: (List.replicate ((119 - n % 64) % 64) 0 ++ be (8 * n) 8)
def St.bytes (s : St) : List UInt8 := be s.a 4 ++ be s.b 4 ++ be s.c 4 ++ be s.d 4 ++ be s.e 4 ++ be s.f 4 ++ be s.g 4 ++ be s.h 4
def sha (l : List UInt8) : List UInt8 :=
  (foldAll iv ((l.length + (filling l.length).length) / 64) (l ++ filling l.length)).bytes

/-- what the translated rotation says of a word, as the walk leaves it -/
theorem ror_walk (x n : Nat) (hx : x < 4294967296) :
    bits .or .u32 (IntKind.u32.wrap ((x : Int) * 2 ^ (32 - n))) ((x : Int) / 2 ^ n) = ((ror n x : Nat) : Int) := by
  rw [IntKind.wrap_u32']
  have e1 : ((x : Int) * 2 ^ (32 - n)) % 4294967296 = ((x * 2 ^ (32 - n) % 4294967296 : Nat) : Int) := by
    rw [Int.natCast_emod, Int.natCast_mul, Int.natCast_pow]; rfl
  have e2 : (x : Int) / 2 ^ n = ((x / 2 ^ n : Nat) : Int) := by rw [Int.natCast_ediv, Int.natCast_pow]; rfl
  rw [e1, e2, u32_or_nat _ _ (Nat.mod_lt _ (by decide)) (Nat.lt_of_le_of_lt (Nat.div_le_self _ _) hx)]
  rfl

theorem mask_walk (n : Nat) (h1 : 1 ≤ n) (h2 : n ≤ 31) : bits .and .u64 (IntKind.u64.wrap (-(n : Int))) 31 = ((32 - n : Nat) : Int) := by
  have e : IntKind.u64.wrap (-(n : Int)) = ((18446744073709551616 - n : Nat) : Int) := by
    rw [IntKind.wrap_u64]; omega
  rw [e, show (31 : Int) = ((31 : Nat) : Int) from rfl, u64_and_nat _ _ (by omega) (by omega), nat_mask5]
  omega

theorem wrapu (n : Nat) (h : n < 4294967296) : IntKind.u32.wrap (n : Int) = (n : Int) := by
  rw [IntKind.wrap_u32']; omega
theorem wrapu_mul (n c : Nat) (h : n * c < 4294967296) : IntKind.u32.wrap ((n : Int) * (c : Int)) = ((n * c : Nat) : Int) := by
  rw [← Int.natCast_mul]; exact wrapu _ h
theorem word_walk (x0 x1 x2 x3 : Nat) (h0 : x0 < 256) (h1 : x1 < 256) (h2 : x2 < 256) (h3 : x3 < 256) :
    bits .or .u32 (bits .or .u32 (bits .or .u32 ((x0 : Int) * 16777216) ((x1 : Int) * 65536)) ((x2 : Int) * 256)) (x3 : Int) = ((word x0 x1 x2 x3 : Nat) : Int) := by
  rw [show (x0 : Int) * 16777216 = ((x0 * 16777216 : Nat) : Int) from by omega, show (x1 : Int) * 65536 = ((x1 * 65536 : Nat) : Int) from by omega, show (x2 : Int) * 256 = ((x2 * 256 : Nat) : Int) from by omega,
    u32_or_nat _ _ (by omega) (by omega), u32_or_nat _ _ (or_lt32 (by omega) (by omega)) (by omega), u32_or_nat _ _ (or_lt32 (or_lt32 (by omega) (by omega)) (by omega)) (by omega)]
  rfl
theorem word_lt (x0 x1 x2 x3 : Nat) (h0 : x0 < 256) (h1 : x1 < 256) (h2 : x2 < 256) (h3 : x3 < 256) : word x0 x1 x2 x3 < 4294967296 :=
  or_lt32 (or_lt32 (or_lt32 (by omega) (by omega)) (by omega)) (by omega)

theorem s0_walk (x : Nat) (hx : x < 4294967296) : bits .xor .u32 (bits .xor .u32 (ror 7 x : Nat) (ror 18 x : Nat)) ((x : Int) / 8) = ((s0 x : Nat) : Int) := by
  rw [show (x : Int) / 8 = ((x / 8 : Nat) : Int) from by omega, u32_xor_nat _ _ (ror_lt hx) (ror_lt hx), u32_xor_nat _ _ (xor_lt32 (ror_lt hx) (ror_lt hx)) (by omega)]
  rfl
theorem s1_walk (x : Nat) (hx : x < 4294967296) : bits .xor .u32 (bits .xor .u32 (ror 17 x : Nat) (ror 19 x : Nat)) ((x : Int) / 1024) = ((s1 x : Nat) : Int) := by
  rw [show (x : Int) / 1024 = ((x / 1024 : Nat) : Int) from by omega, u32_xor_nat _ _ (ror_lt hx) (ror_lt hx), u32_xor_nat _ _ (xor_lt32 (ror_lt hx) (ror_lt hx)) (by omega)]
  rfl
theorem S0_walk (x : Nat) (hx : x < 4294967296) : bits .xor .u32 (bits .xor .u32 (ror 2 x : Nat) (ror 13 x : Nat)) (ror 22 x : Nat) = ((S0 x : Nat) : Int) := by
  rw [u32_xor_nat _ _ (ror_lt hx) (ror_lt hx), u32_xor_nat _ _ (xor_lt32 (ror_lt hx) (ror_lt hx)) (ror_lt hx)]
  rfl
theorem S1_walk (x : Nat) (hx : x < 4294967296) : bits .xor .u32 (bits .xor .u32 (ror 6 x : Nat) (ror 11 x : Nat)) (ror 25 x : Nat) = ((S1 x : Nat) : Int) := by
  rw [u32_xor_nat _ _ (ror_lt hx) (ror_lt hx), u32_xor_nat _ _ (xor_lt32 (ror_lt hx) (ror_lt hx)) (ror_lt hx)]
  rfl
theorem s0_lt (x : Nat) (hx : x < 4294967296) : s0 x < 4294967296 := xor_lt32 (xor_lt32 (ror_lt hx) (ror_lt hx)) (by omega)
theorem s1_lt (x : Nat) (hx : x < 4294967296) : s1 x < 4294967296 := xor_lt32 (xor_lt32 (ror_lt hx) (ror_lt hx)) (by omega)
theorem S0_lt (x : Nat) (hx : x < 4294967296) : S0 x < 4294967296 := xor_lt32 (xor_lt32 (ror_lt hx) (ror_lt hx)) (ror_lt hx)
theorem S1_lt (x : Nat) (hx : x < 4294967296) : S1 x < 4294967296 := xor_lt32 (xor_lt32 (ror_lt hx) (ror_lt hx)) (ror_lt hx)

theorem sum_walk (a b : Nat) : IntKind.u32.wrap ((a : Int) + (b : Int)) = (((a + b) % 4294967296 : Nat) : Int) := by
  rw [IntKind.wrap_u32']; omega
theorem sum4_mod (a b c d : Nat) : ((((a : Int) + (b : Int)) % 4294967296 + (c : Int)) % 4294967296 + (d : Int)) % 4294967296 = (((a + b + c + d) % 4294967296 : Nat) : Int) := by omega
theorem sum_walk' (a b : Nat) : ((a : Int) + (b : Int)) % 4294967296 = (((a + b) % 4294967296 : Nat) : Int) := by omega

theorem sched_length (bl : List UInt8) : ∀ k, (sched bl k).length = k
  | 0 => rfl
  | k + 1 => by simp [sched, sched_length bl k]
theorem sched_lt (bl : List UInt8) : ∀ k, ∀ x ∈ sched bl k, x < 4294967296
  | 0 => by simp [sched]
  | k + 1 => by
    intro x hx
    rw [sched, List.mem_append, List.mem_singleton] at hx
    rcases hx with hx | rfl
    · exact sched_lt bl k x hx
    · unfold wNext
      split
      · exact word_lt _ _ _ _ (UInt8.toNat_lt _) (UInt8.toNat_lt _) (UInt8.toNat_lt _) (UInt8.toNat_lt _)
      · exact Nat.mod_lt _ (by decide)
theorem sched_getD_lt (bl : List UInt8) (k j : Nat) : (sched bl k).getD j 0 < 4294967296 := by
  by_cases h : j < (sched bl k).length
  · rw [List.getD_eq_getElem?_getD, List.getElem?_eq_getElem h]; exact sched_lt bl k _ (List.getElem_mem h)
  · rw [List.getD_eq_getElem?_getD, List.getElem?_eq_none (by omega)]; decide
theorem ch_walk (e f g : Nat) (he : e < 4294967296) (hf : f < 4294967296) (hg : g < 4294967296) :
    bits .xor .u32 (bits .and .u32 (e : Int) (f : Int)) (bits .and .u32 (bits .xor .u32 (if IntKind.u32.signed = true then -1 else IntKind.u32.max) (e : Int)) (g : Int)) = ((ch e f g : Nat) : Int) := by
  have h : (if IntKind.u32.signed = true then -1 else IntKind.u32.max) = ((4294967295 : Nat) : Int) := by decide
  rw [h, u32_xor_nat _ _ (by decide) he, u32_and_nat _ _ he hf, u32_and_nat _ _ (xor_lt32 (by decide) he) hg, u32_xor_nat _ _ (and_lt32 he) (and_lt32 (xor_lt32 (by decide) he))]
  rfl
theorem stepA_walk (k w a b c d e f g h : Nat) : (((h : Int) + (S1 e : Nat) + (ch e f g : Nat) + (k : Int) + (w : Int)) % 4294967296 + (((S0 a : Nat) : Int) + (maj a b c : Nat)) % 4294967296) % 4294967296 = (((step k w ⟨a, b, c, d, e, f, g, h⟩).a : Nat) : Int) := by
  simp only [step, xOf, yOf]; omega
theorem stepE_walk (k w a b c d e f g h : Nat) : ((d : Int) + ((h : Int) + (S1 e : Nat) + (ch e f g : Nat) + (k : Int) + (w : Int)) % 4294967296) % 4294967296 = (((step k w ⟨a, b, c, d, e, f, g, h⟩).e : Nat) : Int) := by
  simp only [step, xOf]; omega
theorem maj_walk (a b c : Nat) (ha : a < 4294967296) (hb : b < 4294967296) (hc : c < 4294967296) :
    bits .xor .u32 (bits .xor .u32 (bits .and .u32 (a : Int) (b : Int)) (bits .and .u32 (a : Int) (c : Int))) (bits .and .u32 (b : Int) (c : Int)) = ((maj a b c : Nat) : Int) := by
  rw [u32_and_nat _ _ ha hb, u32_and_nat _ _ ha hc, u32_and_nat _ _ hb hc, u32_xor_nat _ _ (and_lt32 ha) (and_lt32 ha), u32_xor_nat _ _ (xor_lt32 (and_lt32 ha) (and_lt32 ha)) (and_lt32 hb)]
  rfl
theorem xOf_lt (k w : Nat) (s : St) : xOf k w s < 4294967296 := Nat.mod_lt _ (by decide)
theorem step_ok (k w : Nat) (s : St) (h : s.ok) : (step k w s).ok := ⟨Nat.mod_lt _ (by decide), h.a, h.b, h.c, Nat.mod_lt _ (by decide), h.e, h.f, h.g⟩
theorem rnds_ok (ws : List Nat) (s : St) (h : s.ok) : ∀ t, (rnds ws s t).ok
  | 0 => h
  | t + 1 => step_ok _ _ _ (rnds_ok ws s h t)
theorem addSt_ok (s v : St) : (addSt s v).ok := ⟨Nat.mod_lt _ (by decide), Nat.mod_lt _ (by decide), Nat.mod_lt _ (by decide), Nat.mod_lt _ (by decide), Nat.mod_lt _ (by decide), Nat.mod_lt _ (by decide), Nat.mod_lt _ (by decide), Nat.mod_lt _ (by decide)⟩
theorem fold_ok (s : St) (bl : List UInt8) : (fold s bl).ok := addSt_ok _ _
theorem iv_ok : iv.ok := by constructor <;> decide
theorem kTab_lt : ∀ x ∈ kTab, x < 4294967296 := by decide
theorem kTab_getD_lt (j : Nat) : kTab.getD j 0 < 4294967296 := by
  by_cases h : j < kTab.length
  · rw [List.getD_eq_getElem?_getD, List.getElem?_eq_getElem h]; exact kTab_lt _ (List.getElem_mem h)
  · rw [List.getD_eq_getElem?_getD, List.getElem?_eq_none (by omega)]; decide

theorem sha_empty : (sha []).map UInt8.toNat = [0xe3, 0xb0, 0xc4, 0x42, 0x98, 0xfc, 0x1c, 0x14, 0x9a, 0xfb, 0xf4, 0xc8, 0x99, 0x6f, 0xb9, 0x24, 0x27, 0xae, 0x41, 0xe4, 0x64, 0x9b, 0x93, 0x4c, 0xa4, 0x95, 0x99, 0x1b, 0x78, 0x52, 0xb8, 0x55] := by decide +kernel
end Go.Proofs.YtdbbemcddhgbcaaGreatDoor.Sha

namespace Go.Proofs.YtdbbemcddhgbcaaGreatDoor
open Go.RowKit

theorem ret_int {k : IntKind} {a b : Int} (h : a = b) : Ending.returned (.int k a) = .returned (.int k b) := by rw [h]

set_option maxHeartbeats 400000 in
theorem rotl_any (x n : Nat) (hx : x < 4294967296) (h1 : 1 ≤ n) (h2 : n ≤ 31) (w : World) :
    Calls Tryz.prog 211 #[.int .u32 (x : Int), .int .i64 (-(n : Int))] w fun e w' => e = .returned (.int .u32 (Sha.ror n x : Nat)) ∧ w' = w := by
  have hm := Sha.mask_walk n h1 h2
  have hr := Sha.ror_walk x n hx
  have HR : Hid _ := hr
  clear hr
  obtain ⟨k, hk⟩ : ∃ k : Nat, k = 32 - n := ⟨_, rfl⟩
  rw [← hk] at hm
  have hk1 : (k : Int) ≤ 32 := by omega
  have hk2 : (0 : Int) ≤ k := by omega
  have Hk : Hid _ := hk
  clear hk
  go_enter Tryz.func211, Tryz.ntmps211
  go_wp2
  go_ret
  refine ⟨ret_int ?_, rfl⟩
  have e := HR.out
  rw [IntKind.wrap_u32'] at e
  rw [← e, Hk.out, show 32 - (32 - n) = n from by omega]

set_option maxHeartbeats 400000 in
theorem ror_any (x : Nat) (n : Int) (hx : x < 4294967296) (h1 : 1 ≤ n) (h2 : n ≤ 31) (w : World) :
    Calls Tryz.prog 210 #[.int .u32 (x : Int), .int .i64 n] w fun e w' => e = .returned (.int .u32 (Sha.ror n.toNat x : Nat)) ∧ w' = w := by
  obtain ⟨n, rfl⟩ := Int.eq_ofNat_of_zero_le (show 0 ≤ n by omega)
  rw [Int.toNat_natCast]
  go_enter Tryz.func210, Tryz.ntmps210
  go_wp2_with (go_at_call 211; refine (rotl_any x n hx (by omega) (by omega) _).mono ?_; rintro e w' ⟨rfl, rfl⟩)
  go_ret
  exact ⟨rfl, rfl⟩
end Go.Proofs.YtdbbemcddhgbcaaGreatDoor

namespace Go.Proofs.YtdbbemcddhgbcaaGreatDoor
open Go.RowKit

/-- bytes and words as values -/
def bv (l : List UInt8) : List Value := l.map fun b => .int .u8 (b.toNat : Int)
def wv (l : List Nat) : List Value := l.map fun n => .int .u32 ((n : Nat) : Int)

theorem bv_cell {bl : List UInt8} {w' : World} {g : Nat} {t : TypeId} (h : w'.heap[g]? = some (.cells (bv bl).toArray t (0, 0))) (j : Nat) (hj : j < bl.length) :
    ∃ x : Nat, Hid (x = (bl.getD j 0).toNat) ∧ x < 256 ∧ w'.cell? ⟨g, j, none⟩ = some (.int .u8 (x : Int)) := by
  refine ⟨_, rfl, UInt8.toNat_lt _, ?_⟩
  rw [cell_of_row w' g j _ t _ h]
  simp [bv, hj]
theorem wv_cell {l : List Nat} {w' : World} {g : Nat} {t : TypeId} (h : w'.heap[g]? = some (.cells (wv l).toArray t (0, 0))) (j : Nat) (hj : j < l.length) :
    w'.cell? ⟨g, j, none⟩ = some (.int .u32 ((l.getD j 0 : Nat) : Int)) := by
  rw [cell_of_row w' g j _ t _ h]
  simp [wv, hj]

theorem wv_set (l : List Nat) (m v : Nat) (h : 0 < m) : (wv (l ++ List.replicate m 0)).toArray.setIfInBounds l.length (.int .u32 (v : Int)) = (wv ((l ++ [v]) ++ List.replicate (m - 1) 0)).toArray := by
  obtain ⟨m, rfl⟩ : ∃ n, m = n + 1 := ⟨m - 1, by omega⟩
  simp [wv, List.replicate_succ]

theorem Below.setRow {B : Nat} {a w : World} (h : Below B a w) {g : Nat} (hg : B ≤ g) (cs : Array Value) : Below B a (w.setRow g cs) :=
  ⟨h.os, h.tape, h.output, by rw [setRow_size]; exact h.size, fun k hk => (setRow_other w g k cs (by omega)).trans (h.block k hk)⟩
theorem wv_one (l : List Nat) : (wv l).toArray.all (·.oneCell') = true := by
  refine all_oneCell_toArray fun v hv => ?_
  simp only [wv, List.mem_map] at hv
  obtain ⟨n, _, rfl⟩ := hv
  rfl
theorem bv_one (l : List UInt8) : (bv l).toArray.all (·.oneCell') = true := by
  refine all_oneCell_toArray fun v hv => ?_
  simp only [bv, List.mem_map] at hv
  obtain ⟨n, _, rfl⟩ := hv
  rfl
theorem val_int {k : IntKind} {a b : Int} (h : a = b) : Value.int k a = .int k b := by rw [h]
theorem addSt_walk (s : Sha.St) (a b c d e f g h : Nat) :
    #[Value.int .u32 (((s.a : Int) + (a : Int)) % 4294967296), Value.int .u32 (((s.b : Int) + (b : Int)) % 4294967296), Value.int .u32 (((s.c : Int) + (c : Int)) % 4294967296), Value.int .u32 (((s.d : Int) + (d : Int)) % 4294967296), Value.int .u32 (((s.e : Int) + (e : Int)) % 4294967296), Value.int .u32 (((s.f : Int) + (f : Int)) % 4294967296), Value.int .u32 (((s.g : Int) + (g : Int)) % 4294967296), Value.int .u32 (((s.h : Int) + (h : Int)) % 4294967296)]
      = (wv (Sha.addSt s ⟨a, b, c, d, e, f, g, h⟩).l).toArray := by
  simp only [Sha.sum_walk']; rfl
theorem heap_alloc_at (w : World) (o : Obj) (n : Nat) (h : w.heap.size = n) : (w.alloc o).heap[n]? = some o := by
  subst h; exact heap_alloc_new w o
theorem size_alloc (w : World) (o : Obj) : (w.alloc o).heap.size = w.heap.size + 1 := by
  show (w.heap.push o).size = _; simp
theorem alloc3 (w : World) (a b c : Obj) : (((w.alloc a).alloc b).alloc c).heap[w.heap.size]? = some a ∧ (((w.alloc a).alloc b).alloc c).heap[w.heap.size + 1]? = some b ∧ (((w.alloc a).alloc b).alloc c).heap[w.heap.size + 1 + 1]? = some c ∧ (((w.alloc a).alloc b).alloc c).heap.size = w.heap.size + 3 := by
  have s1 := size_alloc w a
  have s2 := size_alloc (w.alloc a) b
  refine ⟨?_, ?_, ?_, ?_⟩
  · rw [Below.heap_alloc _ _ _ (by omega), Below.heap_alloc _ _ _ (by omega)]; exact heap_alloc_new w a
  · rw [Below.heap_alloc _ _ _ (by omega)]; exact heap_alloc_at _ _ _ s1
  · exact heap_alloc_at _ _ _ (by omega)
  · rw [size_alloc]; omega
theorem below_alloc3 (w : World) (a b c : Obj) : Below w.heap.size w (((w.alloc a).alloc b).alloc c) := by
  have s1 := size_alloc w a
  have s2 := size_alloc (w.alloc a) b
  exact (((Below.refl _ _).alloc (Nat.le_refl _) _).alloc (by omega) _).alloc (by omega) _
end Go.Proofs.YtdbbemcddhgbcaaGreatDoor

namespace Go.Proofs.YtdbbemcddhgbcaaGreatDoor
open Go.RowKit

/-- the blocks of 'schedule' behind k words -/
structure SchedInv (bl : List UInt8) (w : World) (k : Nat) (w' : World) : Prop where
  blk0 : w'.heap[w.heap.size]? = some (.cells (bv bl).toArray 207 (0, 0))
  blk1 : ∃ cs, cs.size = 64 ∧ w'.heap[w.heap.size + 1]? = some (.cells cs 253 (0, 0))
  blk2 : w'.heap[w.heap.size + 1 + 1]? = some (.cells (wv (Sha.sched bl k ++ List.replicate (64 - k) 0)).toArray 253 (0, 0))
  size : w'.heap.size = w.heap.size + 3
  below : Below w.heap.size w w'

theorem info64w : (Tryz.prog.info? 253).map (·.size) = some 64 := by kernel_rfl

theorem SchedInv.word {bl : List UInt8} {w : World} {k : Nat} {w' : World} (inv : SchedInv bl w k w') (j : Nat) (hj : j < k) :
    ∃ y : Nat, Hid (y = (Sha.sched bl k).getD j 0) ∧ y < 4294967296 ∧ w'.cell? ⟨w.heap.size + 1 + 1, j, none⟩ = some (.int .u32 (y : Int)) := by
  refine ⟨_, rfl, Sha.sched_getD_lt bl k j, ?_⟩
  rw [wv_cell inv.blk2 j (by simp [Sha.sched_length]; omega)]
  simp only [List.getD_eq_getElem?_getD]
  rw [List.getElem?_append_left (by rw [Sha.sched_length]; exact hj)]

theorem SchedInv.set {bl : List UInt8} {w : World} {k : Nat} {w' : World} (inv : SchedInv bl w k w') (hk : k < 64) :
    SchedInv bl w (k + 1) (w'.setCell ⟨w.heap.size + 1 + 1, k, none⟩ (.int .u32 ((Sha.wNext bl (Sha.sched bl k) k : Nat) : Int))).drew := by
  have hl := Sha.sched_length bl k
  refine ⟨?_, ?_, ?_, ?_, ?_⟩
  · rw [heap_drew, heap_setCell_other _ _ _ _ (by show w.heap.size ≠ w.heap.size + 1 + 1; omega)]; exact inv.blk0
  · obtain ⟨cs, h1, h2⟩ := inv.blk1
    exact ⟨cs, h1, by rw [heap_drew, heap_setCell_other _ _ _ _ (by show w.heap.size + 1 ≠ w.heap.size + 1 + 1; omega)]; exact h2⟩
  · rw [heap_drew, heap_setCell_same _ _ _ _ _ _ inv.blk2]
    have := wv_set (Sha.sched bl k) (64 - k) (Sha.wNext bl (Sha.sched bl k) k) (by omega)
    rw [hl] at this
    rw [this, show 64 - k - 1 = 64 - (k + 1) from by omega]
    rfl
  · rw [heap_drew]; simpa using inv.size
  · exact (inv.below.setCell (by simp; omega) _).drew

theorem schedInv_start (bl : List UInt8) (w : World) :
    SchedInv bl w 0 (((w.alloc (.cells (bv bl).toArray 207)).alloc (.cells (wv (List.replicate 64 0)).toArray 253)).alloc (.cells (wv (List.replicate 64 0)).toArray 253)) := by
  obtain ⟨h0, h1, h2, h3⟩ := alloc3 w (.cells (bv bl).toArray 207) (.cells (wv (List.replicate 64 0)).toArray 253) (.cells (wv (List.replicate 64 0)).toArray 253)
  exact ⟨h0, ⟨_, by simp [wv], h1⟩, h2, h3, below_alloc3 _ _ _ _⟩

set_option maxHeartbeats 400000 in
theorem schedule_any (bl : List UInt8) (hb : bl.length = 64) (w : World) :
    Calls Tryz.prog 209 #[.agg (bv bl).toArray] w fun e w' => e = .returned (.agg (wv (Sha.sched bl 64)).toArray) ∧ Below w.heap.size w w' := by
  go_enter Tryz.func209, Tryz.ntmps209
  go_wp2
  go_loopw [11] (fun i w' => ∃ k : Nat, k ≤ 16 ∧ i = .int .i64 k ∧ SchedInv bl w k w') (fun i _ => 16 - (intOf i).toNat)
  case atStart =>
    exact ⟨0, by omega, rfl, schedInv_start bl w⟩
  case round =>
    obtain ⟨k, hk, rfl, inv⟩ := hrel
    by_cases hlt : k < 16
    · have b1 : (0 : Int) ≤ 4 * (k : Int) := by omega
      have b2 : 4 * (k : Int) < 64 := by omega
      have b4 : 4 * (k : Int) + 1 < 64 := by omega
      have b5 : 4 * (k : Int) + 2 < 64 := by omega
      have b6 : 4 * (k : Int) + 3 < 64 := by omega
      have b7 : 0 ≤ 4 * (k : Int) + 1 := by omega
      have b8 : 0 ≤ 4 * (k : Int) + 2 := by omega
      have b9 : 0 ≤ 4 * (k : Int) + 3 := by omega
      have v1 : IntKind.i64.wrap (4 * (k : Int) + 1) = 4 * (k : Int) + 1 := wrap_small _ (by omega) (by omega)
      have v2 : IntKind.i64.wrap (4 * (k : Int) + 2) = 4 * (k : Int) + 2 := wrap_small _ (by omega) (by omega)
      have v3 : IntKind.i64.wrap (4 * (k : Int) + 3) = 4 * (k : Int) + 3 := wrap_small _ (by omega) (by omega)
      have n1 : ¬ (w.heap.size + 1 + 1 = w.heap.size) := by omega
      have n2 : ¬ (w.heap.size = w.heap.size + 1 + 1) := by omega
      have t0 : (4 * (k : Int)).toNat = 4 * k := by omega
      have t1 : (4 * (k : Int) + 1).toNat = 4 * k + 1 := by omega
      have t2 : (4 * (k : Int) + 2).toNat = 4 * k + 2 := by omega
      have t3 : (4 * (k : Int) + 3).toNat = 4 * k + 3 := by omega
      have b3 : (k : Int) < 64 := by omega
      obtain ⟨x0, e0, l0, c0⟩ := bv_cell inv.blk0 (4 * k) (by omega)
      obtain ⟨x1, e1, l1, c1⟩ := bv_cell inv.blk0 (4 * k + 1) (by omega)
      obtain ⟨x2, e2, l2, c2⟩ := bv_cell inv.blk0 (4 * k + 2) (by omega)
      obtain ⟨x3, e3, l3, c3⟩ := bv_cell inv.blk0 (4 * k + 3) (by omega)
      have c4 := wv_cell inv.blk2 k (by simp [Sha.sched_length]; omega)
      have f4 : wr.frozen? ⟨w.heap.size + 1 + 1, k, none⟩ = false := frozen_of_row _ _ _ _ _ inv.blk2
      go_wp2
      go_region_held3 (fun w' => w'.cell? ⟨w.heap.size, 4 * k, none⟩ = some (.int .u8 x0) ∧ w'.cell? ⟨w.heap.size, 4 * k + 1, none⟩ = some (.int .u8 x1) ∧ w'.cell? ⟨w.heap.size, 4 * k + 2, none⟩ = some (.int .u8 x2) ∧ w'.cell? ⟨w.heap.size, 4 * k + 3, none⟩ = some (.int .u8 x3)) (go_keep) (fail)
      go_wp2
      go_roundw
      case rel =>
        go_light
        refine ⟨k + 1, by omega, by go_num, ?_⟩
        have e := Sha.word_walk x0 x1 x2 x3 l0 l1 l2 l3
        have g := SchedInv.set inv (by omega)
        rw [Sha.wNext, if_pos hlt, ← e0.out, ← e1.out, ← e2.out, ← e3.out, ← e] at g
        exact g
      case measure => simp [intOf]; omega
    · obtain rfl : k = 16 := by omega
      go_wp2
      go_loopw [6] (fun i w' => ∃ t : Nat, 16 ≤ t ∧ t ≤ 64 ∧ i = .int .i64 t ∧ SchedInv bl w t w') (fun i _ => 64 - (intOf i).toNat)
      case atStart => exact ⟨16, by omega, by omega, rfl, inv⟩
      case round =>
        obtain ⟨t, ht0, ht, rfl, inv⟩ := hrel
        by_cases hlt : t < 64
        · have b1 : (0 : Int) ≤ (t : Int) - 2 := by omega
          have b2 : (t : Int) - 2 < 64 := by omega
          have b3 : (t : Int) < 64 := by omega
          have b4 : (0 : Int) ≤ (t : Int) - 7 := by omega
          have b5 : (t : Int) - 7 < 64 := by omega
          have b6 : (0 : Int) ≤ (t : Int) - 15 := by omega
          have b7 : (t : Int) - 15 < 64 := by omega
          have b8 : (0 : Int) ≤ (t : Int) - 16 := by omega
          have b9 : (t : Int) - 16 < 64 := by omega
          have d1 : (7 : Int) ≤ (t : Int) := by omega
          have d2 : (16 : Int) ≤ (t : Int) := by omega
          obtain ⟨o7, ho7⟩ : ∃ o, o = t - 7 := ⟨_, rfl⟩
          obtain ⟨o16, ho16⟩ : ∃ o, o = t - 16 := ⟨_, rfl⟩
          have n1 : ¬ (t = o7) := by omega
          have n2 : ¬ (t = o16) := by omega
          have n3 : ¬ (o7 = t) := by omega
          have n4 : ¬ (o16 = t) := by omega
          have t1 : ((t : Int) - 7).toNat = o7 := by omega
          have t3 : ((t : Int) - 16).toNat = o16 := by omega
          have v1 : IntKind.i64.wrap ((t : Int) - 2) = (t : Int) - 2 := wrap_small _ (by omega) (by omega)
          have v2 : IntKind.i64.wrap ((t : Int) - 7) = (t : Int) - 7 := wrap_small _ (by omega) (by omega)
          have v3 : IntKind.i64.wrap ((t : Int) - 15) = (t : Int) - 15 := wrap_small _ (by omega) (by omega)
          have v4 : IntKind.i64.wrap ((t : Int) - 16) = (t : Int) - 16 := wrap_small _ (by omega) (by omega)
          have t0 : ((t : Int) - 2).toNat = t - 2 := by omega
          have t2 : ((t : Int) - 15).toNat = t - 15 := by omega
          obtain ⟨y2, e2, l2, c2⟩ := SchedInv.word inv (t - 2) (by omega)
          obtain ⟨y7, e7, l7, c7⟩ := SchedInv.word inv o7 (by omega)
          obtain ⟨y15, e15, l15, c15⟩ := SchedInv.word inv (t - 15) (by omega)
          obtain ⟨y16, e16, l16, c16⟩ := SchedInv.word inv o16 (by omega)
          have Ho7 : Hid _ := ho7
          have Ho16 : Hid _ := ho16
          clear ho7 ho16
          have c4 := wv_cell inv.blk2 t (by simp [Sha.sched_length]; omega)
          have f4 : wr.frozen? ⟨w.heap.size + 1 + 1, t, none⟩ = false := frozen_of_row _ _ _ _ _ inv.blk2
          have hs0 := Sha.s0_walk y15 l15
          have hs1 := Sha.s1_walk y2 l2
          go_wp2
          go_quiet (fail)
          go_wp2_with (go_at_call 210; refine (ror_any _ _ (by assumption) (by omega) (by omega) _).mono ?_; rintro e w' ⟨rfl, rfl⟩)
          go_region_held3 (fun w' => w'.cell? ⟨w.heap.size + 1 + 1, o7, none⟩ = some (.int .u32 y7) ∧ w'.cell? ⟨w.heap.size + 1 + 1, o16, none⟩ = some (.int .u32 y16)) (first | go_keep | simp [*, World.cell?_setCell_other]) (fail)
          go_wp2
          go_roundw
          case rel =>
            go_light
            have g := SchedInv.set (w' := wr.drewN nq) ⟨inv.blk0, inv.blk1, inv.blk2, inv.size, below_drewN inv.below nq⟩ hlt
            rw [Sha.wNext, if_neg (by omega), ← e2.out, ← Ho7.out, ← e7.out, ← e15.out, ← Ho16.out, ← e16.out] at g
            (repeat apply Exists.intro)
            refine ⟨⟨t + 1, by omega, by omega, by go_num, ?_⟩, rfl⟩
            rw [Sha.sum4_mod]
            exact g
          case measure => simp [intOf]; omega
        · obtain rfl : t = 64 := by omega
          have hb2 : wr.heap[w.heap.size + 1 + 1]? = some (.cells (wv (Sha.sched bl 64)).toArray 253 (0, 0)) := by simpa using inv.blk2
          obtain ⟨cs, hcs, hb1⟩ := inv.blk1
          have hsz : (Tryz.prog.info? 253).map (·.size) = some (wv (Sha.sched bl 64)).toArray.size := by rw [info64w]; simp [wv, Sha.sched_length]
          go_wp2_with (first | (with_reducible show wpList _ _ _ (Oper.mk _ (Op.load _ _) _ _ _ _ :: _) _ _; refine wpList_load_row rfl 253 _ rfl (w.heap.size + 1 + 1) rfl 253 _ (0, 0) _ hb2 Tryz.underlying253 rfl hsz ?_) | (with_reducible show wpList _ _ _ (Oper.mk _ (Op.store _ _ _) _ _ _ _ :: _) _ _; refine wpList_store_row rfl 253 _ _ rfl (w.heap.size + 1) _ rfl rfl 253 cs hb1 hsz (by simp [wv, Sha.sched_length, hcs]) (wv_one _) ?_))
          refine bodyPost_ret (v := .agg (wv (Sha.sched bl 64)).toArray) (results_cell_row rfl _ _ (w.heap.size + 1) 253 _ (0, 0) _ rfl (setRow_heap _ _ cs _ _ _ hb1) Tryz.underlying253 rfl hsz) rfl ⟨rfl, ?_⟩
          exact Below.setRow inv.below (by omega) _
end Go.Proofs.YtdbbemcddhgbcaaGreatDoor
