import Derived.Test.YthoakchdlidemaaDoorPkW3
import Derived.Laws.BitsLemmas
import Derived.Test.YthoakchdlidemaaDoorPkW6
import Derived.Deep.AppendSrc
import Derived.Lib.ConvBytes
import Derived.Lib.AppendZeros
import Derived.BigRegion
/- THE PLAIN MATHEMATICS OF THE REFERENCE's WORDS: 64-bit ints that stay below 2^63. -/
namespace Go.Proofs.YthoakchdlidemaaDoor.Sha
open Go

theorem i64_small (n : Nat) (h : n < 9223372036854775808) : IntKind.i64.wrap (n : Int) = (n : Int) := by rw [IntKind.wrap_i64]; omega
theorem i64_or_nat (a b : Nat) (ha : a < 9223372036854775808) (hb : b < 9223372036854775808) : bits .or .i64 (a : Int) (b : Int) = ((a ||| b : Nat) : Int) := by
  have hx : a ||| b < 2 ^ 63 := Nat.or_lt_two_pow (by omega) (by omega)
  show IntKind.i64.wrap ((BitVec.ofInt 64 (a : Int) ||| BitVec.ofInt 64 (b : Int)).toNat : Int) = _
  rw [BitVec.toNat_or, ofInt_u64 a (by omega), ofInt_u64 b (by omega)]
  exact i64_small _ hx
theorem i64_and_nat (a b : Nat) (ha : a < 9223372036854775808) (hb : b < 9223372036854775808) : bits .and .i64 (a : Int) (b : Int) = ((a &&& b : Nat) : Int) := by
  have hx : a &&& b < 2 ^ 63 := Nat.and_lt_two_pow _ (by omega)
  show IntKind.i64.wrap ((BitVec.ofInt 64 (a : Int) &&& BitVec.ofInt 64 (b : Int)).toNat : Int) = _
  rw [BitVec.toNat_and, ofInt_u64 a (by omega), ofInt_u64 b (by omega)]
  exact i64_small _ hx
theorem i64_xor_nat (a b : Nat) (ha : a < 9223372036854775808) (hb : b < 9223372036854775808) : bits .xor .i64 (a : Int) (b : Int) = ((a ^^^ b : Nat) : Int) := by
  have hx : a ^^^ b < 2 ^ 63 := Nat.xor_lt_two_pow (by omega) (by omega)
  show IntKind.i64.wrap ((BitVec.ofInt 64 (a : Int) ^^^ BitVec.ofInt 64 (b : Int)).toNat : Int) = _
  rw [BitVec.toNat_xor, ofInt_u64 a (by omega), ofInt_u64 b (by omega)]
  exact i64_small _ hx
theorem low_walk (a : Nat) (ha : a < 9223372036854775808) : bits .and .i64 (a : Int) 4294967295 = ((a % 4294967296 : Nat) : Int) := by
  rw [show (4294967295 : Int) = ((4294967295 : Nat) : Int) from rfl, i64_and_nat _ _ ha (by decide)]
  exact congrArg Int.ofNat (Nat.and_two_pow_sub_one_eq_mod a 32)

theorem mul_pow_lt (x k : Nat) (hx : x < 4294967296) (hk : k ≤ 31) : x * 2 ^ k < 9223372036854775808 := by
  have : 2 ^ k ≤ 2 ^ 31 := Nat.pow_le_pow_right (by decide) hk
  calc x * 2 ^ k ≤ x * 2 ^ 31 := Nat.mul_le_mul_left _ this
    _ < 9223372036854775808 := by omega
/-- the reference's turn -/
theorem rror_walk (x n : Nat) (hx : x < 4294967296) (h1 : 1 ≤ n) : bits .and .i64 (bits .or .i64 ((x : Int) / 2 ^ n) ((x : Int) * 2 ^ (32 - n))) 4294967295 = ((ror n x : Nat) : Int) := by
  have e1 : (x : Int) / 2 ^ n = ((x / 2 ^ n : Nat) : Int) := by rw [Int.natCast_ediv, Int.natCast_pow]; rfl
  have e2 : (x : Int) * 2 ^ (32 - n) = ((x * 2 ^ (32 - n) : Nat) : Int) := by rw [Int.natCast_mul, Int.natCast_pow]; rfl
  have h2 : x / 2 ^ n < 4294967296 := Nat.lt_of_le_of_lt (Nat.div_le_self _ _) hx
  have h3 := mul_pow_lt x (32 - n) hx (by omega)
  rw [e1, e2, i64_or_nat _ _ (by omega) h3, low_walk _ (Nat.or_lt_two_pow (n := 63) (by omega) h3)]
  have := Nat.or_mod_two_pow (a := x / 2 ^ n) (b := x * 2 ^ (32 - n)) (n := 32)
  rw [show (4294967296 : Nat) = 2 ^ 32 from rfl, this, ror, Nat.or_comm, Nat.mod_eq_of_lt (a := x / 2 ^ n) h2]
theorem rs0_walk (x : Nat) (hx : x < 4294967296) : bits .xor .i64 (bits .xor .i64 (ror 7 x : Nat) (ror 18 x : Nat)) ((x : Int) / 8) = ((s0 x : Nat) : Int) := by
  have a := ror_lt (n := 7) hx
  have b := ror_lt (n := 18) hx
  have c := xor_lt32 a b
  rw [show (x : Int) / 8 = ((x / 8 : Nat) : Int) from by omega, i64_xor_nat _ _ (by omega) (by omega), i64_xor_nat _ _ (by omega) (by omega)]
  rfl
theorem rs1_walk (x : Nat) (hx : x < 4294967296) : bits .xor .i64 (bits .xor .i64 (ror 17 x : Nat) (ror 19 x : Nat)) ((x : Int) / 1024) = ((s1 x : Nat) : Int) := by
  have a := ror_lt (n := 17) hx
  have b := ror_lt (n := 19) hx
  have c := xor_lt32 a b
  rw [show (x : Int) / 1024 = ((x / 1024 : Nat) : Int) from by omega, i64_xor_nat _ _ (by omega) (by omega), i64_xor_nat _ _ (by omega) (by omega)]
  rfl
theorem rS0_walk (x : Nat) (hx : x < 4294967296) : bits .xor .i64 (bits .xor .i64 (ror 2 x : Nat) (ror 13 x : Nat)) (ror 22 x : Nat) = ((S0 x : Nat) : Int) := by
  have a := ror_lt (n := 2) hx
  have b := ror_lt (n := 13) hx
  have c := xor_lt32 a b
  have d := ror_lt (n := 22) hx
  rw [i64_xor_nat _ _ (by omega) (by omega), i64_xor_nat _ _ (by omega) (by omega)]
  rfl
theorem rS1_walk (x : Nat) (hx : x < 4294967296) : bits .xor .i64 (bits .xor .i64 (ror 6 x : Nat) (ror 11 x : Nat)) (ror 25 x : Nat) = ((S1 x : Nat) : Int) := by
  have a := ror_lt (n := 6) hx
  have b := ror_lt (n := 11) hx
  have c := xor_lt32 a b
  have d := ror_lt (n := 25) hx
  rw [i64_xor_nat _ _ (by omega) (by omega), i64_xor_nat _ _ (by omega) (by omega)]
  rfl
theorem rword_walk (x0 x1 x2 x3 : Nat) (h0 : x0 < 256) (h1 : x1 < 256) (h2 : x2 < 256) (h3 : x3 < 256) :
    bits .or .i64 (bits .or .i64 (bits .or .i64 ((x0 : Int) * 16777216) ((x1 : Int) * 65536)) ((x2 : Int) * 256)) (x3 : Int) = ((word x0 x1 x2 x3 : Nat) : Int) := by
  have a : x0 * 16777216 ||| x1 * 65536 < 4294967296 := or_lt32 (by omega) (by omega)
  have b : (x0 * 16777216 ||| x1 * 65536) ||| x2 * 256 < 4294967296 := or_lt32 a (by omega)
  rw [show (x0 : Int) * 16777216 = ((x0 * 16777216 : Nat) : Int) from by omega, show (x1 : Int) * 65536 = ((x1 * 65536 : Nat) : Int) from by omega, show (x2 : Int) * 256 = ((x2 * 256 : Nat) : Int) from by omega,
    i64_or_nat _ _ (by omega) (by omega), i64_or_nat _ _ (by omega) (by omega), i64_or_nat _ _ (by omega) (by omega)]
  rfl
theorem rch_walk (e f g : Nat) (he : e < 4294967296) (hf : f < 4294967296) (hg : g < 4294967296) :
    bits .xor .i64 (bits .and .i64 (e : Int) (f : Int)) (bits .and .i64 (bits .xor .i64 4294967295 (e : Int)) (g : Int)) = ((ch e f g : Nat) : Int) := by
  have a : e &&& f < 4294967296 := and_lt32 he
  have b : 4294967295 ^^^ e < 4294967296 := xor_lt32 (by decide) he
  have c : (4294967295 ^^^ e) &&& g < 4294967296 := and_lt32 b
  rw [show (4294967295 : Int) = ((4294967295 : Nat) : Int) from rfl, i64_xor_nat _ _ (by decide) (by omega), i64_and_nat _ _ (by omega) (by omega), i64_and_nat _ _ (by omega) (by omega), i64_xor_nat _ _ (by omega) (by omega)]
  rfl
theorem rmaj_walk (a b c : Nat) (ha : a < 4294967296) (hb : b < 4294967296) (hc : c < 4294967296) :
    bits .xor .i64 (bits .xor .i64 (bits .and .i64 (a : Int) (b : Int)) (bits .and .i64 (a : Int) (c : Int))) (bits .and .i64 (b : Int) (c : Int)) = ((maj a b c : Nat) : Int) := by
  have d : a &&& b < 4294967296 := and_lt32 ha
  have e : a &&& c < 4294967296 := and_lt32 ha
  have f : b &&& c < 4294967296 := and_lt32 hb
  have g := xor_lt32 d e
  rw [i64_and_nat _ _ (by omega) (by omega), i64_and_nat _ _ (by omega) (by omega), i64_and_nat _ _ (by omega) (by omega), i64_xor_nat _ _ (by omega) (by omega), i64_xor_nat _ _ (by omega) (by omega)]
  rfl
theorem ch_lt (e f g : Nat) (he : e < 4294967296) : ch e f g < 4294967296 := xor_lt32 (and_lt32 he) (and_lt32 (xor_lt32 (by decide) he))
theorem maj_lt (a b c : Nat) (ha : a < 4294967296) (hb : b < 4294967296) : maj a b c < 4294967296 := xor_lt32 (xor_lt32 (and_lt32 ha) (and_lt32 ha)) (and_lt32 hb)
theorem low2 (a b : Nat) (ha : a < 4294967296) (hb : b < 4294967296) : bits .and .i64 ((a : Int) + (b : Int)) 4294967295 = (((a + b) % 4294967296 : Nat) : Int) := by
  rw [show (a : Int) + (b : Int) = ((a + b : Nat) : Int) from by omega]; exact low_walk _ (by omega)
theorem low4 (a b c d : Nat) (ha : a < 4294967296) (hb : b < 4294967296) (hc : c < 4294967296) (hd : d < 4294967296) : bits .and .i64 ((a : Int) + (b : Int) + (c : Int) + (d : Int)) 4294967295 = (((a + b + c + d) % 4294967296 : Nat) : Int) := by
  rw [show (a : Int) + (b : Int) + (c : Int) + (d : Int) = ((a + b + c + d : Nat) : Int) from by omega]; exact low_walk _ (by omega)
theorem low5 (a b c d e : Nat) (ha : a < 4294967296) (hb : b < 4294967296) (hc : c < 4294967296) (hd : d < 4294967296) (he : e < 4294967296) : bits .and .i64 ((a : Int) + (b : Int) + (c : Int) + (d : Int) + (e : Int)) 4294967295 = (((a + b + c + d + e) % 4294967296 : Nat) : Int) := by
  rw [show (a : Int) + (b : Int) + (c : Int) + (d : Int) + (e : Int) = ((a + b + c + d + e : Nat) : Int) from by omega]; exact low_walk _ (by omega)
theorem wrap2 (a b : Nat) (ha : a < 4294967296) (hb : b < 4294967296) : IntKind.i64.wrap ((a : Int) + (b : Int)) = (a : Int) + (b : Int) := by rw [IntKind.wrap_i64]; omega
theorem wrap3 (a b c : Nat) (ha : a < 4294967296) (hb : b < 4294967296) (hc : c < 4294967296) : IntKind.i64.wrap ((a : Int) + (b : Int) + (c : Int)) = (a : Int) + (b : Int) + (c : Int) := by rw [IntKind.wrap_i64]; omega
theorem wrap4 (a b c d : Nat) (ha : a < 4294967296) (hb : b < 4294967296) (hc : c < 4294967296) (hd : d < 4294967296) : IntKind.i64.wrap ((a : Int) + (b : Int) + (c : Int) + (d : Int)) = (a : Int) + (b : Int) + (c : Int) + (d : Int) := by rw [IntKind.wrap_i64]; omega
end Go.Proofs.YthoakchdlidemaaDoor.Sha

namespace Go.Proofs.YthoakchdlidemaaDoor
open Go.RowKit

/-- numbers as ints -/
def nv (l : List Nat) : List Value := l.map fun n => .int .i64 ((n : Nat) : Int)
theorem nv_mem {l : List Nat} {v : Value} (h : v ∈ nv l) : v.oneCell' = true := by
  simp only [nv, List.mem_map] at h
  obtain ⟨n, _, rfl⟩ := h
  rfl
theorem nv_one (l : List Nat) : (nv l).toArray.all (·.oneCell') = true := oneCell_of fun _ h => nv_mem h
@[simp] theorem nv_length (l : List Nat) : (nv l).length = l.length := by simp [nv]
theorem nv_cell {l : List Nat} {w' : World} {g : Nat} {t : TypeId} (h : w'.heap[g]? = some (.cells (nv l).toArray t (0, 0))) (j : Nat) (hj : j < l.length) :
    w'.cell? ⟨g, j, none⟩ = some (.int .i64 ((l.getD j 0 : Nat) : Int)) := by
  rw [cell_of_row w' g j _ t _ h]
  simp [nv, hj]
theorem kTab_length : Sha.kTab.length = 64 := by decide +kernel

end Go.Proofs.YthoakchdlidemaaDoor

namespace Go.Proofs.YthoakchdlidemaaDoor
open Go.RowKit

def bigTo (n m k : Nat) : List UInt8 := List.replicate (m - k) 0 ++ Sha.be n k
theorem bigTo_set (n m k : Nat) (hk : k < m) : (bv (bigTo n m k)).toArray.setIfInBounds (m - 1 - k) (.int .u8 ((UInt8.ofNat (n / 256 ^ k)).toNat : Int)) = (bv (bigTo n m (k + 1))).toArray := by
  have e : bigTo n m k = List.replicate (m - 1 - k) 0 ++ 0 :: Sha.be n k := by
    rw [bigTo, show m - k = m - 1 - k + 1 from by omega, List.replicate_succ']; simp
  have g := bv_setAt (List.replicate (m - 1 - k) 0) 0 (UInt8.ofNat (n / 256 ^ k)) (Sha.be n k)
  rw [List.length_replicate] at g
  rw [e, g, bigTo, show m - (k + 1) = m - 1 - k from by omega]
  rfl
theorem big_walk (n k : Nat) : (n : Int) / 2 ^ (8 * k) % 256 = (((UInt8.ofNat (n / 256 ^ k)).toNat : Nat) : Int) := by
  have e : (n : Int) / 2 ^ (8 * k) = ((n / 256 ^ k : Nat) : Int) := by
    rw [Int.natCast_ediv, Int.natCast_pow]
    congr 1
    rw [show (((256 : Nat) : Int)) = 2 ^ 8 from rfl, ← Int.pow_mul]
  rw [e]
  simp [UInt8.toNat_ofNat']

end Go.Proofs.YthoakchdlidemaaDoor

namespace Go.Proofs.YthoakchdlidemaaDoor
open Go.RowKit

/-- The slice value v, of elements of one cell each, owns the cells cs in a row of its own from block 'base' on; its spare cells may be written. -/
def Own (w : World) (base : Nat) (v : Value) (cs : List Value) : Prop :=
  (v = .slice none 0 0 ∧ cs = []) ∨
  ∃ g cap, v = .slice (some ⟨g, 0, none⟩) cs.length cap ∧ base ≤ g ∧ cs.length ≤ cap ∧ cap ≤ maxLen ∧ w.rangeAt g 0 cs ∧ w.there g 0 cap ∧ g < w.heap.size

theorem Own.nil (w : World) (base : Nat) : Own w base (.slice none 0 0) [] := .inl ⟨rfl, rfl⟩

theorem rangeAt_heap {w w' : World} {b o : Nat} {cs : List Value} (h : w.rangeAt b o cs) (hb : w'.heap[b]? = w.heap[b]?) : w'.rangeAt b o cs := fun j v hv => by
  rw [World.cell?_of_block (w := w) hb]; exact h j v hv
theorem there_heap {w w' : World} {b o n : Nat} (h : w.there b o n) (hb : w'.heap[b]? = w.heap[b]?) : w'.there b o n := fun j hj => by
  rw [World.cell?_of_block (w := w) hb, World.frozen?_of_block (w := w) hb]; exact h j hj
theorem Own.kept {w w' : World} {base : Nat} {v : Value} {cs : List Value} (h : Own w base v cs) (hs : w.heap.size ≤ w'.heap.size) (hb : ∀ g, v.ownBlock = some g → w'.heap[g]? = w.heap[g]?) : Own w' base v cs := by
  rcases h with h | ⟨g, cap, rfl, h1, h2, h3, h4, h5, h6⟩
  · exact .inl h
  · exact .inr ⟨g, cap, rfl, h1, h2, h3, rangeAt_heap h4 (hb g rfl), there_heap h5 (hb g rfl), by omega⟩
theorem Own.below {w w' : World} {base B : Nat} {v : Value} {cs : List Value} (h : Own w base v cs) (hb : Below B w w') (hB : w.heap.size ≤ B) : Own w' base v cs := by
  refine h.kept hb.size fun g hg => hb.block g ?_
  rcases h with ⟨rfl, _⟩ | ⟨g', cap, rfl, h1, h2, h3, h4, h5, h6⟩
  · cases hg
  · cases hg; show g' < B; omega
theorem Own.alloc {w : World} {base : Nat} {v : Value} {cs : List Value} (h : Own w base v cs) (o : Obj) : Own (w.alloc o) base v cs :=
  h.below (B := w.heap.size) ((Below.refl _ _).alloc (Nat.le_refl _) _) (Nat.le_refl _)
theorem Own.drew {w : World} {base : Nat} {v : Value} {cs : List Value} (h : Own w base v cs) : Own w.drew base v cs := h
theorem Own.drewN {w : World} {base : Nat} {v : Value} {cs : List Value} (h : Own w base v cs) (n : Nat) : Own (w.drewN n) base v cs := h
theorem Own.but {w w' : World} {base b : Nat} {v : Value} {cs : List Value} (h : Own w base v cs) (hb : But b w w') (hne : v.ownBlock ≠ some b) : Own w' base v cs := by
  refine h.kept hb.size fun g hg => hb.block g ?_ (fun e => hne (by rw [hg, e]))
  rcases h with ⟨rfl, _⟩ | ⟨g', cap, rfl, h1, h2, h3, h4, h5, h6⟩
  · cases hg
  · cases hg; exact h6
theorem Own.mono {w : World} {base base' : Nat} {v : Value} {cs : List Value} (h : Own w base v cs) (hb : base' ≤ base) : Own w base' v cs := by
  rcases h with h | ⟨g, cap, rfl, h1, h⟩
  · exact .inl h
  · exact .inr ⟨g, cap, rfl, by omega, h⟩
theorem Own.ge {w : World} {base : Nat} {v : Value} {cs : List Value} (h : Own w base v cs) : ∀ k, v.ownBlock = some k → base ≤ k := by
  rcases h with ⟨rfl, _⟩ | ⟨g, cap, rfl, h1, _⟩
  · intro k hk; cases hk
  · intro k hk; cases hk; exact h1

/-- APPEND onto what is owned, from whatever source. -/
theorem run_append_O {P : Program} (w : World) (base : Nat) (t tx ty e : TypeId) (i : TypeInfo) (z : Value) (ht : P.underlying t = some (.slice e)) (hi : P.info? e = some i) (hz : i.zero = some z)
    (hsize : i.size = 1) (hzs : z.cells.size = 1) (v : Value) (cs : List Value) (hown : Own w base v cs) (x : Value) (n : Nat) (news : List Value) (hs : Src P 1 tx x n news w)
    (hbytes : (cs.length + n) * i.bytes ≤ 140737488355328) (h63 : cs.length + n ≤ maxLen) (hbase : base ≤ w.heap.size) (hpos : v = .slice none 0 0 → 0 < n) :
    ∃ v' w', (Builtin.append_ #[t, tx] ty #[v, x]).run P w = .ok v' w' ∧ Own w' base v' (cs ++ news) ∧ w.grownBy w' v.ownBlock ∧ (v'.ownBlock = v.ownBlock ∨ v'.ownBlock = some w.heap.size) := by
  have hn : news.length = n := by simpa using hs.newsLen
  have h63' : cs.length + n ≤ 9223372036854775807 := by simp only [maxLen] at h63; omega
  -- the arm that grows
  have grow : ∀ (b : Option Addr) (old : Nat), old < cs.length + n → v = .slice b cs.length old → (Builtin.firstCells 1 cs.length (.slice b cs.length old)).run P w.drew = .ok cs.toArray w.drew →
      ∃ v' w', (Builtin.append_ #[t, tx] ty #[v, x]).run P w = .ok v' w' ∧ Own w' base v' (cs ++ news) ∧ w.grownBy w' v.ownBlock ∧ (v'.ownBlock = v.ownBlock ∨ v'.ownBlock = some w.heap.size) := by
    intro b old ho hv hold
    have hr := run_append_grow_src (P := P) w t tx ty e i z ht hi hz b cs.length old cs (by rw [hsize]; exact hold) x n news (by rw [hsize]; exact hs) ho (by omega) (growslice_fits ho hbytes)
    have hge := grownCap_ge w (cs.length + n) old e
    have hcm : grownCap w (cs.length + n) old e ≤ maxLen := grownCap_le_maxLen w (cs.length + n) old e h63
    have hnew : (w.drew.alloc (.cells ((cs ++ news).toArray ++ Builtin.zeroCells z.cells (grownCap w (cs.length + n) old e - (cs.length + n))) e)).heap[w.heap.size]? = some (.cells ((cs ++ news).toArray ++ Builtin.zeroCells z.cells (grownCap w (cs.length + n) old e - (cs.length + n))) e (0, 0)) := heap_alloc_new w.drew _
    refine ⟨.slice (some ⟨w.heap.size, 0, none⟩) (cs.length + n) (grownCap w (cs.length + n) old e), w.drew.alloc (.cells ((cs ++ news).toArray ++ Builtin.zeroCells z.cells (grownCap w (cs.length + n) old e - (cs.length + n))) e), by rw [hv]; exact hr, .inr ⟨w.heap.size, grownCap w (cs.length + n) old e, by rw [List.length_append, hn], hbase, by rw [List.length_append, hn]; exact hge, hcm, ?_, ?_, ?_⟩, ⟨rfl, rfl, rfl, by rw [size_alloc]; exact Nat.le_succ w.heap.size, fun k hk _ => Below.heap_alloc w.drew _ k hk⟩, .inr rfl⟩
    · intro j u hj
      rw [cell_of_row _ _ _ _ _ _ hnew, Nat.zero_add]
      have hj' : j < (cs ++ news).length := (List.getElem?_eq_some_iff.1 hj).1
      rw [Array.getElem?_append_left (by simpa using hj')]
      simpa using hj
    · refine there_of_row hnew 0 _ ?_
      simp only [Array.size_append, List.size_toArray, size_zeroCells, hzs, List.length_append, hn]
      omega
    · rw [size_alloc]; exact Nat.lt_succ_self _
  rcases hown with ⟨rfl, rfl⟩ | ⟨g, cap, rfl, h1, h2, h3, h4, h5, h6⟩
  · exact grow none 0 (by have := hpos rfl; simp; omega) rfl (run_firstCells_none w.drew 1 0 0 0)
  · by_cases hroom : cs.length + n ≤ cap
    · have hr := run_append_room_src (P := P) w t tx ty e i ht hi g 0 cs.length cap x n news (by rw [hsize]; exact hs) hroom
        (fun j hj => by rw [hsize, Nat.mul_one]; exact by have := (h5 (cs.length + j) (by omega)).1; simpa [Nat.add_assoc] using this)
        (fun j hj => by rw [hsize, Nat.mul_one]; exact by have := (h5 (cs.length + j) (by omega)).2; simpa [Nat.add_assoc] using this)
      rw [hsize, Nat.mul_one, Nat.zero_add] at hr
      have ht' : w.there g cs.length news.length := fun j hj => by have := h5 (cs.length + j) (by omega); simpa using this
      refine ⟨_, _, hr, .inr ⟨g, cap, by rw [List.length_append, hn], h1, by rw [List.length_append, hn]; exact hroom, h3, ?_, World.there_setCells h5 _ _ _, ?_⟩, ?_, .inl rfl⟩
      · intro j u hj
        by_cases hjl : j < cs.length
        · rw [List.getElem?_append_left hjl] at hj
          exact World.rangeAt_setCells_apart h4 g cs.length news (.inr (.inl (by omega))) j u hj
        · rw [List.getElem?_append_right (by omega)] at hj
          have := World.rangeAt_setCells_same w g cs.length news ht' (j - cs.length) u hj
          rwa [show cs.length + (j - cs.length) = 0 + j from by omega] at this
      · have := (But.setCells news cs.length (But.refl g w)).size; omega
      · have hb := But.setCells news cs.length (But.refl g w)
        exact ⟨hb.os, hb.tape, hb.output, hb.size, fun k hk hne => hb.block k hk (fun e => hne (by rw [e]; rfl))⟩
    · refine grow (some ⟨g, 0, none⟩) cap (by omega) rfl ?_
      exact run_firstCells_some w.drew 1 cs.length ⟨g, 0, none⟩ cs.length cap cs (by simp) (fun j u hj => by rw [Addr.add_mid]; exact h4 j u hj)
end Go.Proofs.YthoakchdlidemaaDoor

namespace Go.Proofs.YthoakchdlidemaaDoor
open Go.RowKit

theorem info5' : (Tryd.prog.info? 5).map (fun i => (i.zero, i.size, i.bytes)) = some (some (.int .u8 0), 1, 1) := by kernel_rfl
/-- bytes that lie in a row of the call's own -/
abbrev OwnB (w : World) (base : Nat) (v : Value) (bs : List UInt8) : Prop := Own w base v (bv bs)

theorem Own.shape {w : World} {base : Nat} {v : Value} {cs : List Value} (h : Own w base v cs) : ∃ a cap, v = .slice a cs.length cap := by
  rcases h with ⟨rfl, rfl⟩ | ⟨g, cap, rfl, _⟩
  · exact ⟨none, 0, rfl⟩
  · exact ⟨some ⟨g, 0, none⟩, cap, rfl⟩

/-- append of new bytes that lie in a block of their own ('append(out, x, y)') -/
theorem append_new (w : World) (base : Nat) (v : Value) (bs ns : List UInt8) (m : Nat) (C : Array Value) (hC : C = (bv ns).toArray) (hm : ns.length = m) (hown : OwnB w base v bs)
    (hlen : bs.length + m ≤ 140737488355328) (hbase : base ≤ w.heap.size) (hpos : 0 < m) :
    ∃ v' w', (Builtin.append_ #[67, 67] 67 #[v, .slice (some ⟨w.heap.size, 0, none⟩) m m]).run Tryd.prog (w.alloc (.cells C 5)) = .ok v' w' ∧ OwnB w' base v' (bs ++ ns) ∧
      w.grownBy w' v.ownBlock ∧ (v'.ownBlock = v.ownBlock ∨ v'.ownBlock = some (w.heap.size + 1)) := by
  subst hC
  obtain ⟨i0, hi, hz0, hz1, hz2⟩ := info_parts info5'
  have hsrc : Src Tryd.prog 1 67 (.slice (some ⟨w.heap.size, 0, none⟩) m m) m (bv ns) (w.alloc (.cells (bv ns).toArray 5)) :=
    Src.ofSlice _ Tryd.underlying67 ⟨w.heap.size, 0, none⟩ m m (bv ns) (by simp [hm]) (fun j u hj => by
      rw [Addr.add_mid, cell_of_row _ _ _ _ _ _ (heap_alloc_new w _), Nat.zero_add]; simpa using hj) (fun u hu => bv_mem hu)
  obtain ⟨v', w', h1, h2, h3, h4⟩ := run_append_O (P := Tryd.prog) (w.alloc (.cells (bv ns).toArray 5)) base 67 67 67 5 i0 (.int .u8 0) Tryd.underlying67 hi hz0 hz1 rfl v (bv bs) (hown.alloc _) _ m (bv ns) hsrc
    (by rw [bv_length, hz2]; omega) (by rw [bv_length, maxLen]; omega) (by rw [size_alloc]; omega) (fun _ => hpos)
  refine ⟨v', w', h1, by rw [OwnB, bv_append]; exact h2, ⟨h3.os, h3.tape, h3.output, by have := h3.size; rw [size_alloc] at this; omega, fun k hk hne => (h3.block k (by rw [size_alloc]; omega) hne).trans (Below.heap_alloc w _ k hk)⟩, by rw [size_alloc] at h4; exact h4⟩
/-- append of a string's bytes ('append(out, s...)') -/
theorem append_str (w : World) (base : Nat) (v : Value) (bs : List UInt8) (s : ByteArray) (hown : OwnB w base v bs)
    (hlen : bs.length + s.size ≤ 140737488355328) (hbase : base ≤ w.heap.size) (hpos : v = .slice none 0 0 → 0 < s.size) :
    ∃ v' w', (Builtin.append_ #[67, 9] 67 #[v, .string s]).run Tryd.prog w = .ok v' w' ∧ OwnB w' base v' (bs ++ s.data.toList) ∧
      w.grownBy w' v.ownBlock ∧ (v'.ownBlock = v.ownBlock ∨ v'.ownBlock = some w.heap.size) := by
  obtain ⟨i0, hi, hz0, hz1, hz2⟩ := info_parts info5'
  obtain ⟨v', w', h1, h2, h3, h4⟩ := run_append_O (P := Tryd.prog) w base 67 9 67 5 i0 (.int .u8 0) Tryd.underlying67 hi hz0 hz1 rfl v (bv bs) hown _ s.size (byteCells s) (Src.ofString w Tryd.underlying9 s)
    (by rw [bv_length, hz2]; omega) (by rw [bv_length, maxLen]; omega) hbase hpos
  exact ⟨v', w', h1, by rw [OwnB, bv_append]; exact h2, h3, h4⟩
theorem Below.ofGrown {w w' : World} {v : Value} {base : Nat} (h : w.grownBy w' v.ownBlock) (hv : ∀ k, v.ownBlock = some k → base ≤ k) (hb : base ≤ w.heap.size) : Below base w w' :=
  (Below.refl base w).grown h hb hv

/-- s + t -/
theorem add_sv (P : Program) (t : TypeId) (a b : List UInt8) (h : a.length + b.length ≤ 9223372036854775807) (w : World) : (binOp .add t (sv a) (sv b)).run P w = .ok (sv (a ++ b)) w := by
  rw [sv, sv, binOp_string_add, run_string_add_sum w _ _ (by rw [sv_size, sv_size]; exact h), ByteArray.mk_append_mk]
  rfl
/-- []byte(s) -/
theorem conv_bytes (w : World) (s : ByteArray) (hs : s.size ≤ maxLen) :
    ∃ v' w', (convert 9 67 (.string s)).run Tryd.prog w = .ok v' w' ∧ OwnB w' w.heap.size v' s.data.toList ∧ Below w.heap.size w w' := by
  refine ⟨_, _, Lib.run_convert_string_bytes (P := Tryd.prog) w 9 67 5 s Tryd.underlying9 Tryd.underlying67 Tryd.underlying5, .inr ⟨w.heap.size, _, by rw [bv_length, data_length], Nat.le_refl _, ?_, ?_, ?_, ?_, ?_⟩, ?_⟩
  · rw [bv_length, data_length]; exact grownCap_ge w s.size 0 _
  · exact grownCap_le_maxLen w s.size 0 _ hs
  · intro j u hj
    have hj' : j < s.size := by have := (List.getElem?_eq_some_iff.1 hj).1; rwa [bv_length, data_length] at this
    rw [Nat.zero_add, Lib.bytesWorld_cell w _ s j hj', ← hj]
    have hd : j < s.data.toList.length := by rw [data_length]; exact hj'
    simp only [bv, List.getElem?_map, List.getD_eq_getElem?_getD, List.getElem?_eq_getElem hd, Option.getD_some, Option.map_some]
  · intro j hj
    have hn := Lib.bytesWorld_at_new w 5 s
    have hsz : (Lib.bytesCells w 5 s).size = grownCap w s.size 0 5 := by
      have := grownCap_ge w s.size 0 5
      have e : s.data.size = s.size := rfl
      simp only [Lib.bytesCells, Array.size_append, Array.size_map, Array.size_replicate]
      omega
    refine ⟨?_, ?_⟩
    · rw [Nat.zero_add, cell_of_row _ _ _ _ _ _ hn, Array.getElem?_eq_getElem (by omega)]; rfl
    · simp only [World.frozen?, hn, Nat.zero_add]
      simp; omega
  · rw [Lib.bytesWorld_size]; omega
  · exact ⟨rfl, rfl, rfl, by rw [Lib.bytesWorld_size]; omega, fun k hk => Lib.bytesWorld_at_old w _ s k hk⟩
/-- string(b) of what is owned -/
theorem conv_own {w : World} {base : Nat} {v : Value} {bs : List UInt8} (h : OwnB w base v bs) (hpos : v ≠ .slice none 0 0) : (convert 67 9 v).run Tryd.prog w = .ok (sv bs) w := by
  rcases h with ⟨rfl, _⟩ | ⟨g, cap, rfl, _, _, _, h4, _⟩
  · exact absurd rfl hpos
  · exact run_conv_bytes (P := Tryd.prog) w 67 9 5 g 0 (bv bs).length cap bs (by rw [bv_length]) Tryd.underlying67 Tryd.underlying5 Tryd.underlying9 h4
end Go.Proofs.YthoakchdlidemaaDoor

namespace Go.Proofs.YthoakchdlidemaaDoor
open Go.RowKit

def sliceLen : Value → Nat
  | .slice _ n _ => n
  | _ => 0

end Go.Proofs.YthoakchdlidemaaDoor

namespace Go.Proofs.YthoakchdlidemaaDoor
open Go.RowKit

theorem nv_set (l : List Nat) (m v : Nat) (h : 0 < m) : (nv (l ++ List.replicate m 0)).toArray.setIfInBounds l.length (.int .i64 (v : Int)) = (nv ((l ++ [v]) ++ List.replicate (m - 1) 0)).toArray := by
  obtain ⟨m, rfl⟩ : ∃ n, m = n + 1 := ⟨m - 1, by omega⟩
  simp [nv, List.replicate_succ]
theorem rstep_cells (kk ww a b c d e f g h X Y : Nat) (hX : X = Sha.xOf kk ww ⟨a, b, c, d, e, f, g, h⟩) (hY : Y = Sha.yOf ⟨a, b, c, d, e, f, g, h⟩) :
    #[Value.int .i64 (((X + Y) % 4294967296 : Nat) : Int), Value.int .i64 (a : Int), Value.int .i64 (b : Int), Value.int .i64 (c : Int), Value.int .i64 (((d + X) % 4294967296 : Nat) : Int), Value.int .i64 (e : Int), Value.int .i64 (f : Int), Value.int .i64 (g : Int)] = (nv (Sha.step kk ww ⟨a, b, c, d, e, f, g, h⟩).l).toArray := by
  subst hX hY; rfl
theorem nvk_size : (nv Sha.kTab).toArray.size = 64 := by rw [List.size_toArray, nv_length, kTab_length]
theorem nv8_size (s : Sha.St) : (nv s.l).toArray.size = 8 := rfl
/-- s[i] of a string -/
theorem index_str (s : ByteArray) (i : Int) (k : Nat) (hi : i = (k : Int)) (h : k < s.size) :
    ∃ x : Nat, Hid (x = (s.data.toList.getD k 0).toNat) ∧ x < 256 ∧ ∀ w, (Instr.index 9 (.string s) (.int .i64 i)).run Tryd.prog w = .ok (.int .u8 (x : Int)) w := by
  refine ⟨_, rfl, UInt8.toNat_lt _, fun w => ?_⟩
  subst hi
  rw [run_index_string w 9 s .i64 (k : Int) Tryd.underlying9]
  simp [h]
  rfl

theorem w64_2 (a b : Nat) (ha : a < 4294967296) (hb : b < 4294967296) : wrap64 ((a : Int) + (b : Int)) = (a : Int) + (b : Int) := by unfold wrap64; omega
theorem w64 (n : Int) (h0 : 0 ≤ n) (h1 : n < 9223372036854775808) : wrap64 n = n := by unfold wrap64; omega

end Go.Proofs.YthoakchdlidemaaDoor

namespace Go.Proofs.YthoakchdlidemaaDoor
open Go.RowKit

theorem beSt_step (l : List Nat) (k : Nat) (h : k < l.length) : ((l.take (k + 1)).map (Sha.be · 4)).flatten = ((l.take k).map (Sha.be · 4)).flatten ++ Sha.be (l.getD k 0) 4 := by
  rw [List.take_succ_eq_append_getElem h, List.map_append, List.flatten_append, List.getD_eq_getElem?_getD, List.getElem?_eq_getElem h]
  simp
theorem beSt_all (s : Sha.St) : (s.l.map (Sha.be · 4)).flatten = s.bytes := by
  simp [Sha.St.l, Sha.St.bytes]
theorem beSt_len (l : List Nat) (k : Nat) : ((l.take k).map (Sha.be · 4)).flatten.length ≤ 4 * k := by
  induction k with
  | zero => simp
  | succ k ih =>
    by_cases h : k < l.length
    · rw [beSt_step l k h, List.length_append, Sha.be_length]; omega
    · rw [List.take_of_length_le (by omega)] at ih ⊢; omega

theorem mid_size' (s : ByteArray) (a b : Nat) (h : b ≤ s.size) : (s.extract a b).size = b - a := by
  rw [← data_length, Lib.extract_data, List.length_take, List.length_drop, data_length]; omega
theorem foldAll_ok : ∀ (k : Nat) (s : Sha.St) (l : List UInt8), s.ok → (Sha.foldAll s k l).ok
  | 0, _, _, h => h
  | k + 1, _, _, _ => foldAll_ok k _ _ (Sha.fold_ok _ _)

theorem store_nv (P : Program) (b : Nat) (F : Sha.St) (w : World) (h : w.there b 0 8) : (storeCells ⟨b, 0, none⟩ (nv F.l)).run P w = .ok () (w.setCells b 0 (nv F.l)) := by
  have h8 : (nv F.l).length = 8 := by simp [Sha.St.l]
  have := run_storeCells_cells (P := P) b 0 (nv F.l) 0 w (fun j hj => by simpa using (h j (by omega)).1) (fun j hj => by simpa using (h j (by omega)).2) (fun v hv => nv_mem hv)
  simpa using this
end Go.Proofs.YthoakchdlidemaaDoor

namespace Go.Proofs.YthoakchdlidemaaDoor
open Go.RowKit

theorem app_data (a b : ByteArray) : (a ++ b).data.toList = a.data.toList ++ b.data.toList := by
  have h := ByteArray.mk_append_mk a.data.toList b.data.toList
  rw [Array.toArray_toList, Array.toArray_toList] at h
  have h2 : a ++ b = ⟨(a.data.toList ++ b.data.toList).toArray⟩ := h
  rw [h2]
theorem app_size (a b : ByteArray) : (a ++ b).size = a.size + b.size := by rw [← data_length, app_data, List.length_append, data_length, data_length]
theorem joined_size (l r : ByteArray) (hl : l.size = 32) (hr : r.size = 32) : ({ data := #[1] } ++ l ++ r : ByteArray).size = 65 := by
  rw [app_size, app_size, hl, hr]; rfl
theorem joined_data (l r : ByteArray) : ({ data := #[1] } ++ l ++ r : ByteArray).data.toList = 1 :: (l.data.toList ++ r.data.toList) := by
  rw [app_data, app_data, List.append_assoc]; rfl
end Go.Proofs.YthoakchdlidemaaDoor

/- THE PLAIN MATHEMATICS OF LAYER 3: roots, paths, proofs over lists; nothing of the program. -/
namespace Go.Proofs.YthoakchdlidemaaDoor
/-- D3: the node of two hashes; nothing of texts of other lengths -/
def Tree.nd (l r : List UInt8) : List UInt8 := if l.length = 32 ∧ r.length = 32 then Sha.sha (1 :: (l ++ r)) else []
namespace Tree
/-- T1 -/
def sp (n : Nat) : Nat := if n < 2 then 0 else 2 ^ (n - 1).log2
theorem sp_small {n : Nat} (h : n < 2) : sp n = 0 := by rw [sp, if_pos h]
theorem sp_eq {n : Nat} (h : 2 ≤ n) : sp n = 2 ^ (n - 1).log2 := by rw [sp, if_neg (by omega)]
theorem sp_lt {n : Nat} (h : 2 ≤ n) : sp n < n := by
  rw [sp_eq h]
  have := Nat.log2_self_le (n := n - 1) (by omega)
  omega
theorem sp_pos {n : Nat} (h : 2 ≤ n) : 0 < sp n := by rw [sp_eq h]; exact Nat.two_pow_pos _
theorem sp_ge {n : Nat} (h : 2 ≤ n) : n ≤ 2 * sp n := by
  rw [sp_eq h]
  have := Nat.lt_log2_self (n := n - 1)
  rw [Nat.pow_succ] at this
  omega
/-- the one power of two that is below n and not below its half -/
theorem sp_one {n : Nat} (h : 2 ≤ n) (a : Nat) (h1 : 2 ^ a < n) (h2 : n ≤ 2 * 2 ^ a) : sp n = 2 ^ a := by
  rw [sp_eq h]
  congr 1
  have h3 : (n - 1).log2 < a + 1 := (Nat.log2_lt (by omega)).2 (by rw [Nat.pow_succ]; omega)
  have h4 : ¬ (n - 1).log2 < a := fun hlt => by
    have := (Nat.log2_lt (n := n - 1) (by omega)).1 hlt
    omega
  omega

abbrev T := List UInt8
def rootF : Nat → List T → T
  | 0, l => l.headD (Sha.sha [])
  | f + 1, l => if l.length < 2 then l.headD (Sha.sha []) else nd (rootF f (l.take (sp l.length))) (rootF f (l.drop (sp l.length)))
def root (l : List T) : T := rootF l.length l
theorem rootF_eq : ∀ (f g : Nat) (l : List T), l.length ≤ f → l.length ≤ g → rootF f l = rootF g l
  | 0, 0, _, _, _ => rfl
  | 0, g + 1, l, h, _ => by rw [rootF, rootF, if_pos (by omega)]
  | f + 1, 0, l, _, h => by rw [rootF, rootF, if_pos (by omega)]
  | f + 1, g + 1, l, h1, h2 => by
    rw [rootF, rootF]
    by_cases h : l.length < 2
    · rw [if_pos h, if_pos h]
    · have a := sp_lt (n := l.length) (by omega)
      have b := sp_pos (n := l.length) (by omega)
      rw [if_neg h, if_neg h, rootF_eq f g _ (by simp; omega) (by simp; omega), rootF_eq f g (l.drop _) (by simp; omega) (by simp; omega)]
theorem root_nil : root [] = Sha.sha [] := rfl
theorem root_one (a : T) : root [a] = a := rfl
theorem root_cut {l : List T} (h : 2 ≤ l.length) : root l = nd (root (l.take (sp l.length))) (root (l.drop (sp l.length))) := by
  have a := sp_lt h
  have b := sp_pos h
  have e : root l = rootF (l.length - 1 + 1) l := rootF_eq _ _ _ (by omega) (by omega)
  rw [e, rootF, if_neg (by omega), root, root, rootF_eq (l.length - 1) _ (l.take _) (by simp; omega) (Nat.le_refl _), rootF_eq (l.length - 1) _ (l.drop _) (by simp; omega) (Nat.le_refl _)]
/-- are all hashes? -/
def Hs (l : List T) : Prop := ∀ x ∈ l, x.length = 32
theorem Hs.take {l : List T} (h : Hs l) (k : Nat) : Hs (l.take k) := fun x hx => h x (List.mem_of_mem_take hx)
theorem Hs.drop {l : List T} (h : Hs l) (k : Nat) : Hs (l.drop k) := fun x hx => h x (List.mem_of_mem_drop hx)
theorem nd_length {a b : T} (ha : a.length = 32) (hb : b.length = 32) : (nd a b).length = 32 := by rw [nd, if_pos ⟨ha, hb⟩, Sha.sha_length]
theorem root_length : ∀ (n : Nat) (l : List T), l.length ≤ n → Hs l → (root l).length = 32
  | n, [], _, _ => by rw [root_nil, Sha.sha_length]
  | n, [a], _, h => by rw [root_one]; exact h a (by simp)
  | 0, a :: b :: l, h, _ => by simp at h
  | n + 1, a :: b :: l, h, hh => by
    have x := sp_lt (n := (a :: b :: l).length) (by simp)
    have y := sp_pos (n := (a :: b :: l).length) (by simp)
    rw [root_cut (by simp)]
    exact nd_length (root_length n _ (by simp at *; omega) (hh.take _)) (root_length n _ (by simp at *; omega) (hh.drop _))
theorem root_hash {l : List T} (h : Hs l) : (root l).length = 32 := root_length _ l (Nat.le_refl _) h

/-- P(m, l) -/
def pathF : Nat → Nat → List T → List T
  | 0, _, _ => []
  | f + 1, m, l => if l.length < 2 then [] else
    if m < sp l.length then pathF f m (l.take (sp l.length)) ++ [root (l.drop (sp l.length))] else pathF f (m - sp l.length) (l.drop (sp l.length)) ++ [root (l.take (sp l.length))]
def path (m : Nat) (l : List T) : List T := pathF l.length m l
theorem pathF_eq : ∀ (f g m : Nat) (l : List T), l.length ≤ f → l.length ≤ g → pathF f m l = pathF g m l
  | 0, 0, _, _, _, _ => rfl
  | 0, g + 1, m, l, h, _ => by rw [pathF, pathF, if_pos (by omega)]
  | f + 1, 0, m, l, _, h => by rw [pathF, pathF, if_pos (by omega)]
  | f + 1, g + 1, m, l, h1, h2 => by
    rw [pathF, pathF]
    by_cases h : l.length < 2
    · rw [if_pos h, if_pos h]
    · have a := sp_lt (n := l.length) (by omega)
      have b := sp_pos (n := l.length) (by omega)
      rw [if_neg h, if_neg h, pathF_eq f g _ _ (by simp; omega) (by simp; omega), pathF_eq f g _ (l.drop _) (by simp; omega) (by simp; omega)]
theorem path_small {m : Nat} {l : List T} (h : l.length < 2) : path m l = [] := by
  rw [path, pathF_eq _ 1 _ _ (Nat.le_refl _) (by omega), pathF, if_pos h]
theorem path_cut {m : Nat} {l : List T} (h : 2 ≤ l.length) : path m l = if m < sp l.length then path m (l.take (sp l.length)) ++ [root (l.drop (sp l.length))] else path (m - sp l.length) (l.drop (sp l.length)) ++ [root (l.take (sp l.length))] := by
  have a := sp_lt h
  have b := sp_pos h
  have e : path m l = pathF (l.length - 1 + 1) m l := pathF_eq _ _ _ _ (by omega) (by omega)
  rw [e, pathF, if_neg (by omega), path, path, pathF_eq (l.length - 1) _ _ (l.take _) (by simp; omega) (Nat.le_refl _), pathF_eq (l.length - 1) _ _ (l.drop _) (by simp; omega) (Nat.le_refl _)]

/-- S(m, l, whole) -/
def proofF : Nat → Nat → List T → Bool → List T
  | 0, _, _, _ => []
  | f + 1, m, l, whole => if m = l.length then (if whole then [] else [root l]) else
    if m ≤ sp l.length then proofF f m (l.take (sp l.length)) whole ++ [root (l.drop (sp l.length))] else proofF f (m - sp l.length) (l.drop (sp l.length)) false ++ [root (l.take (sp l.length))]
def proof (m : Nat) (l : List T) (whole : Bool) : List T := proofF l.length m l whole
theorem proofF_eq : ∀ (f g m : Nat) (l : List T) (whole : Bool), 1 ≤ m → m ≤ l.length → l.length ≤ f → l.length ≤ g → proofF f m l whole = proofF g m l whole
  | 0, _, m, l, _, h1, h2, h3, _ => by omega
  | _ + 1, 0, m, l, _, h1, h2, _, h3 => by omega
  | f + 1, g + 1, m, l, whole, h1, h2, h3, h4 => by
    rw [proofF, proofF]
    by_cases h : m = l.length
    · rw [if_pos h, if_pos h]
    · have a := sp_lt (n := l.length) (by omega)
      have b := sp_pos (n := l.length) (by omega)
      rw [if_neg h, if_neg h]
      by_cases hm : m ≤ sp l.length
      · rw [if_pos hm, if_pos hm, proofF_eq f g _ _ _ h1 (by simp; omega) (by simp; omega) (by simp; omega)]
      · rw [if_neg hm, if_neg hm, proofF_eq f g _ (l.drop _) _ (by omega) (by simp; omega) (by simp; omega) (by simp; omega)]
theorem proof_whole {l : List T} (h : 1 ≤ l.length) : proof l.length l true = [] := by
  rw [proof, proofF_eq _ (l.length - 1 + 1) _ _ _ h (Nat.le_refl _) (Nat.le_refl _) (by omega), proofF, if_pos rfl]; rfl
theorem proof_part {l : List T} (h : 1 ≤ l.length) : proof l.length l false = [root l] := by
  rw [proof, proofF_eq _ (l.length - 1 + 1) _ _ _ h (Nat.le_refl _) (Nat.le_refl _) (by omega), proofF, if_pos rfl]; rfl
theorem proof_left {m : Nat} {l : List T} {whole : Bool} (h1 : 1 ≤ m) (h2 : m < l.length) (h3 : m ≤ sp l.length) : proof m l whole = proof m (l.take (sp l.length)) whole ++ [root (l.drop (sp l.length))] := by
  have a := sp_lt (n := l.length) (by omega)
  have b := sp_pos (n := l.length) (by omega)
  have e : proof m l whole = proofF (l.length - 1 + 1) m l whole := proofF_eq _ _ _ _ _ h1 (by omega) (by omega) (by omega)
  rw [e, proofF, if_neg (by omega), if_pos h3, proof, proofF_eq (l.length - 1) _ _ (l.take _) _ h1 (by simp; omega) (by simp; omega) (Nat.le_refl _)]
theorem proof_right {m : Nat} {l : List T} {whole : Bool} (h1 : 1 ≤ m) (h2 : m < l.length) (h3 : ¬ m ≤ sp l.length) : proof m l whole = proof (m - sp l.length) (l.drop (sp l.length)) false ++ [root (l.take (sp l.length))] := by
  have a := sp_lt (n := l.length) (by omega)
  have b := sp_pos (n := l.length) (by omega)
  have e : proof m l whole = proofF (l.length - 1 + 1) m l whole := proofF_eq _ _ _ _ _ h1 (by omega) (by omega) (by omega)
  rw [e, proofF, if_neg (by omega), if_neg h3, proof, proofF_eq (l.length - 1) _ _ (l.drop _) _ (by omega) (by simp; omega) (by simp; omega) (Nat.le_refl _)]

/-- M(indices, l), l's first leaf being the b-th of all; the indices rise -/
def manyF : Nat → List Nat → Nat → List T → List T
  | 0, _, _, _ => []
  | f + 1, is, b, l => if is = [] then [root l] else if l.length < 2 then [] else
    manyF f (is.filter (· < b + sp l.length)) b (l.take (sp l.length)) ++ manyF f (is.filter (b + sp l.length ≤ ·)) (b + sp l.length) (l.drop (sp l.length))
def many (is : List Nat) (b : Nat) (l : List T) : List T := manyF l.length is b l
theorem manyF_eq : ∀ (f g : Nat) (is : List Nat) (b : Nat) (l : List T), 1 ≤ l.length → l.length ≤ f → l.length ≤ g → manyF f is b l = manyF g is b l
  | 0, _, _, _, l, h0, h1, _ => by omega
  | _ + 1, 0, _, _, l, h0, _, h1 => by omega
  | f + 1, g + 1, is, b, l, h0, h1, h2 => by
    rw [manyF, manyF]
    by_cases hi : is = []
    · rw [if_pos hi, if_pos hi]
    · rw [if_neg hi, if_neg hi]
      by_cases h : l.length < 2
      · rw [if_pos h, if_pos h]
      · have a := sp_lt (n := l.length) (by omega)
        have b := sp_pos (n := l.length) (by omega)
        rw [if_neg h, if_neg h, manyF_eq f g _ _ _ (by simp; omega) (by simp; omega) (by simp; omega), manyF_eq f g _ _ (l.drop _) (by simp; omega) (by simp; omega) (by simp; omega)]
theorem many_none {b : Nat} {l : List T} (h : 1 ≤ l.length) : many [] b l = [root l] := by
  rw [many, manyF_eq _ (l.length - 1 + 1) _ _ _ h (by omega) (by omega), manyF, if_pos rfl]
theorem many_one {is : List Nat} {b : Nat} {l : List T} (hi : is ≠ []) (h : l.length = 1) : many is b l = [] := by
  rw [many, h, manyF, if_neg hi, if_pos (by omega)]
theorem many_cut {is : List Nat} {b : Nat} {l : List T} (hi : is ≠ []) (h : 2 ≤ l.length) :
    many is b l = many (is.filter (· < b + sp l.length)) b (l.take (sp l.length)) ++ many (is.filter (b + sp l.length ≤ ·)) (b + sp l.length) (l.drop (sp l.length)) := by
  have x := sp_lt h
  have y := sp_pos h
  rw [many, manyF_eq _ (l.length - 1 + 1) _ _ _ (by omega) (by omega) (by omega), manyF, if_neg hi, if_neg (by omega), many, many, manyF_eq (l.length - 1) _ _ _ (l.take _) (by simp; omega) (by simp; omega) (Nat.le_refl _), manyF_eq (l.length - 1) _ _ _ (l.drop _) (by simp; omega) (by simp; omega) (Nat.le_refl _)]
end Tree
end Go.Proofs.YthoakchdlidemaaDoor
