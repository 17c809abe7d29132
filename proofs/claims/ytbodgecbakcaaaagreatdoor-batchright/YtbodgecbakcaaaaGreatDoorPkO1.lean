import Derived.Test.YtbodgecbakcaaaaGreatDoorPkM1
import Derived.Test.YtbodgecbakcaaaaGreatDoorProg
import Derived.WalkKit
import Derived.WalkSpells
import Derived.WalkLawsBesides
import Derived.Deep.RegionHeld3
import Derived.Deep.QuietTactic
import Derived.BigQuiet
import Derived.Deep.MidRow
import Derived.Deep.Light
import Derived.Maps.Keyed
import Derived.DeepKeys4
import Derived.WideKeyEntry
/- THE PLAIN MATHEMATICS OF LAYER 3: roots, paths, proofs over lists; nothing of the program. -/
namespace Go.Proofs.YtbodgecbakcaaaaGreatDoor
def Tree.nd (l r : List UInt8) : List UInt8 := if l.length = 32 ∧ r.length = 32 then Sha.sha (1 :: (l ++ r)) else []
namespace Tree
def sp (n : Nat) : Nat := if n < 2 then 0 else 2 ^ (n - 1).log2
theorem sp_small {n : Nat} (h : n < 2) : sp n = 0 := by rw [sp, if_pos h]
theorem sp_eq {n : Nat} (h : 2 ≤ n) : sp n = 2 ^ (n - 1).log2 := by rw [sp, if_neg (by omega)]
theorem sp_lt {n : Nat} (h : 2 ≤ n) : sp n < n := by
  rw [sp_eq h]
  have := Nat.log2_self_le (n := n - 1) (by omega)
  omega
theorem sp_pos {n : Nat} (h : 2 ≤ n) : 0 < sp n := by rw [sp_eq h]; exact Nat.two_pow_pos _
theorem sp_ge {n : Nat} (h : 2 ≤ n) : n ≤ 2 * sp n := by
  rw [sp_eq h]
  have := Nat.lt_log2_self (n := n - 1)
  rw [Nat.pow_succ] at this
  omega
theorem sp_one {n : Nat} (h : 2 ≤ n) (a : Nat) (h1 : 2 ^ a < n) (h2 : n ≤ 2 * 2 ^ a) : sp n = 2 ^ a := by
  rw [sp_eq h]
  congr 1
  have h3 : (n - 1).log2 < a + 1 := (Nat.log2_lt (by omega)).2 (by rw [Nat.pow_succ]; omega)
  have h4 : ¬ (n - 1).log2 < a := fun hlt => by
    have := (Nat.log2_lt (n := n - 1) (by omega)).1 hlt
    omega
  omega
abbrev T := List UInt8
def rootF : Nat → List T → T
  | 0, l => l.headD (Sha.sha [])
  | f + 1, l => if l.length < 2 then l.headD (Sha.sha []) else nd (rootF f (l.take (sp l.length))) (rootF f (l.drop (sp l.length)))
def root (l : List T) : T := rootF l.length l
theorem rootF_eq : ∀ (f g : Nat) (l : List T), l.length ≤ f → l.length ≤ g → rootF f l = rootF g l
  | 0, 0, _, _, _ => rfl
  | 0, g + 1, l, h, _ => by rw [rootF, rootF, if_pos (by omega)]
  | f + 1, 0, l, _, h => by rw [rootF, rootF, if_pos (by omega)]
  | f + 1, g + 1, l, h1, h2 => by
    rw [rootF, rootF]
    by_cases h : l.length < 2
    · rw [if_pos h, if_pos h]
    · have a := sp_lt (n := l.length) (by omega)
      have b := sp_pos (n := l.length) (by omega)
      rw [if_neg h, if_neg h, rootF_eq f g _ (by simp; omega) (by simp; omega), rootF_eq f g (l.drop _) (by simp; omega) (by simp; omega)]
theorem root_nil : root [] = Sha.sha [] := rfl
theorem root_one (a : T) : root [a] = a := rfl
theorem root_cut {l : List T} (h : 2 ≤ l.length) : root l = nd (root (l.take (sp l.length))) (root (l.drop (sp l.length))) := by
  have a := sp_lt h
  have b := sp_pos h
  have e : root l = rootF (l.length - 1 + 1) l := rootF_eq _ _ _ (by omega) (by omega)
  rw [e, rootF, if_neg (by omega), root, root, rootF_eq (l.length - 1) _ (l.take _) (by simp; omega) (Nat.le_refl _), rootF_eq (l.length - 1) _ (l.drop _) (by simp; omega) (Nat.le_refl _)]
def Hs (l : List T) : Prop := ∀ x ∈ l, x.length = 32
theorem nd_length {a b : T} (ha : a.length = 32) (hb : b.length = 32) : (nd a b).length = 32 := by rw [nd, if_pos ⟨ha, hb⟩, Sha.sha_length]
def pathF : Nat → Nat → List T → List T
  | 0, _, _ => []
  | f + 1, m, l => if l.length < 2 then [] else
    if m < sp l.length then pathF f m (l.take (sp l.length)) ++ [root (l.drop (sp l.length))] else pathF f (m - sp l.length) (l.drop (sp l.length)) ++ [root (l.take (sp l.length))]
def path (m : Nat) (l : List T) : List T := pathF l.length m l
def proofF : Nat → Nat → List T → Bool → List T
  | 0, _, _, _ => []
  | f + 1, m, l, whole => if m = l.length then (if whole then [] else [root l]) else
    if m ≤ sp l.length then proofF f m (l.take (sp l.length)) whole ++ [root (l.drop (sp l.length))] else proofF f (m - sp l.length) (l.drop (sp l.length)) false ++ [root (l.take (sp l.length))]
def proof (m : Nat) (l : List T) (whole : Bool) : List T := proofF l.length m l whole
def manyF : Nat → List Nat → Nat → List T → List T
  | 0, _, _, _ => []
  | f + 1, is, b, l => if is = [] then [root l] else if l.length < 2 then [] else
    manyF f (is.filter (· < b + sp l.length)) b (l.take (sp l.length)) ++ manyF f (is.filter (b + sp l.length ≤ ·)) (b + sp l.length) (l.drop (sp l.length))
def many (is : List Nat) (b : Nat) (l : List T) : List T := manyF l.length is b l
theorem manyF_eq : ∀ (f g : Nat) (is : List Nat) (b : Nat) (l : List T), 1 ≤ l.length → l.length ≤ f → l.length ≤ g → manyF f is b l = manyF g is b l
  | 0, _, _, _, l, h0, h1, _ => by omega
  | _ + 1, 0, _, _, l, h0, _, h1 => by omega
  | f + 1, g + 1, is, b, l, h0, h1, h2 => by
    rw [manyF, manyF]
    by_cases hi : is = []
    · rw [if_pos hi, if_pos hi]
    · rw [if_neg hi, if_neg hi]
      by_cases h : l.length < 2
      · rw [if_pos h, if_pos h]
      · have a := sp_lt (n := l.length) (by omega)
        have b := sp_pos (n := l.length) (by omega)
        rw [if_neg h, if_neg h, manyF_eq f g _ _ _ (by simp; omega) (by simp; omega) (by simp; omega), manyF_eq f g _ _ (l.drop _) (by simp; omega) (by simp; omega) (by simp; omega)]
theorem many_none {b : Nat} {l : List T} (h : 1 ≤ l.length) : many [] b l = [root l] := by
  rw [many, manyF_eq _ (l.length - 1 + 1) _ _ _ h (by omega) (by omega), manyF, if_pos rfl]
theorem many_one {is : List Nat} {b : Nat} {l : List T} (hi : is ≠ []) (h : l.length = 1) : many is b l = [] := by
  rw [many, h, manyF, if_neg hi, if_pos (by omega)]
theorem many_cut {is : List Nat} {b : Nat} {l : List T} (hi : is ≠ []) (h : 2 ≤ l.length) :
    many is b l = many (is.filter (· < b + sp l.length)) b (l.take (sp l.length)) ++ many (is.filter (b + sp l.length ≤ ·)) (b + sp l.length) (l.drop (sp l.length)) := by
  have x := sp_lt h
  have y := sp_pos h
  rw [many, manyF_eq _ (l.length - 1 + 1) _ _ _ (by omega) (by omega) (by omega), manyF, if_neg hi, if_neg (by omega), many, many, manyF_eq (l.length - 1) _ _ _ (l.take _) (by simp; omega) (by simp; omega) (Nat.le_refl _), manyF_eq (l.length - 1) _ _ _ (l.drop _) (by simp; omega) (by simp; omega) (Nat.le_refl _)]
end Tree
end Go.Proofs.YtbodgecbakcaaaaGreatDoor

/- THE PLAIN MATHEMATICS OF LAYER 7: complete subtrees, rows of them, spans; nothing of the program. -/
namespace Go.Proofs.YtbodgecbakcaaaaGreatDoor
namespace Til
open Tree
def sg (L : List T) (b e : Nat) : List T := (L.take e).drop b
theorem sg_len {L : List T} {b e : Nat} (h : e ≤ L.length) : (sg L b e).length = e - b := by unfold sg; rw [List.length_drop, List.length_take]; omega
theorem sg_take {L : List T} {b e k : Nat} (h : b + k ≤ e) : (sg L b e).take k = sg L b (b + k) := by
  unfold sg
  rw [List.take_drop, List.take_take]
  congr 2
  omega
theorem sg_drop {L : List T} {b e k : Nat} : (sg L b e).drop k = sg L (b + k) e := by
  unfold sg
  rw [List.drop_drop]
theorem sg_all (L : List T) : sg L 0 L.length = L := by unfold sg; rw [List.take_length, List.drop_zero]
theorem sg_append {L M : List T} {b e : Nat} (h : e ≤ L.length) : sg (L ++ M) b e = sg L b e := by
  unfold sg
  rw [List.take_append_of_le_length h]
theorem sg_nil {L : List T} (b : Nat) : sg L b b = [] := by
  unfold sg
  exact List.drop_eq_nil_of_le (by rw [List.length_take]; omega)
theorem sg_one {L : List T} {b : Nat} (h : b < L.length) : sg L b (b + 1) = [L[b]] := by
  unfold sg
  rw [List.take_add_one, List.getElem?_eq_getElem h, Option.toList_some, List.drop_append_of_le_length (by rw [List.length_take]; omega), List.drop_eq_nil_of_le (by rw [List.length_take]; omega), List.nil_append]
theorem root_two {L : List T} {b e a : Nat} (he : e ≤ L.length) (h1 : b + 2 ^ a < e) (h2 : e ≤ b + 2 * 2 ^ a) : root (sg L b e) = nd (root (sg L b (b + 2 ^ a))) (root (sg L (b + 2 ^ a) e)) := by
  have hp := Nat.two_pow_pos a
  have hl := sg_len (L := L) (b := b) he
  have hs := sp_one (n := (sg L b e).length) (by omega) a (by omega) (by omega)
  rw [root_cut (by omega), hs, sg_take (by omega), sg_drop]
def hs (L : List T) (l i : Nat) : T := root (sg L (i * 2 ^ l) ((i + 1) * 2 ^ l))
theorem hs_leaf {L : List T} {i : Nat} (h : i < L.length) : hs L 0 i = L[i] := by
  unfold hs
  rw [Nat.pow_zero, Nat.mul_one, Nat.mul_one, sg_one h, root_one]
theorem hs_node {L : List T} {l i : Nat} (h : (i + 1) * 2 ^ (l + 1) ≤ L.length) : hs L (l + 1) i = nd (hs L l (2 * i)) (hs L l (2 * i + 1)) := by
  unfold hs
  have hp := Nat.two_pow_pos l
  have e1 : i * 2 ^ (l + 1) = 2 * i * 2 ^ l := by rw [Nat.pow_succ, Nat.mul_comm (2 ^ l) 2, ← Nat.mul_assoc, Nat.mul_comm i 2]
  have e2 : (i + 1) * 2 ^ (l + 1) = 2 * i * 2 ^ l + 2 * 2 ^ l := by rw [Nat.add_mul, e1, Nat.one_mul, Nat.pow_succ]; omega
  have e3 : (2 * i + 1) * 2 ^ l = 2 * i * 2 ^ l + 2 ^ l := by rw [Nat.add_mul, Nat.one_mul]
  have e4 : (2 * i + 1 + 1) * 2 ^ l = 2 * i * 2 ^ l + 2 * 2 ^ l := by rw [Nat.add_mul, Nat.one_mul, e3]; omega
  rw [e1, e2, e3, e4, root_two (a := l) (by omega) (by omega) (by omega)]
theorem hs_append {L M : List T} {l i : Nat} (h : (i + 1) * 2 ^ l ≤ L.length) : hs (L ++ M) l i = hs L l i := by
  unfold hs
  rw [sg_append h]
def row (L : List T) (h c l i : Nat) : List T := (List.range (min (2 ^ h) (c - i * 2 ^ h))).map fun t => hs L l (i * 2 ^ h + t)
theorem row_len (L : List T) (h c l i : Nat) : (row L h c l i).length = min (2 ^ h) (c - i * 2 ^ h) := by unfold row; rw [List.length_map, List.length_range]
theorem row_get {L : List T} {h c l i t : Nat} (ht : t < min (2 ^ h) (c - i * 2 ^ h)) : (row L h c l i)[t]? = some (hs L l (i * 2 ^ h + t)) := by
  unfold row
  rw [List.getElem?_map, List.getElem?_range ht]
  rfl
theorem row_at {L : List T} {h c l i : Nat} (hi : i < c) : (row L h c l (i / 2 ^ h))[i % 2 ^ h]? = some (hs L l i) := by
  have hp := Nat.two_pow_pos h
  have h1 := Nat.mod_lt i hp
  have h2 : i / 2 ^ h * 2 ^ h + i % 2 ^ h = i := by rw [Nat.mul_comm]; exact Nat.div_add_mod i _
  rw [row_get (by omega), h2]
theorem row_more {L : List T} (h c l : Nat) : row L h (c + 1) l (c / 2 ^ h) = row L h c l (c / 2 ^ h) ++ [hs L l c] := by
  have hp := Nat.two_pow_pos h
  have h1 := Nat.mod_lt c hp
  have h2 : c / 2 ^ h * 2 ^ h + c % 2 ^ h = c := by rw [Nat.mul_comm]; exact Nat.div_add_mod c _
  unfold row
  rw [show min (2 ^ h) (c + 1 - c / 2 ^ h * 2 ^ h) = c % 2 ^ h + 1 by omega, show min (2 ^ h) (c - c / 2 ^ h * 2 ^ h) = c % 2 ^ h by omega, List.range_succ, List.map_append]
  simp only [List.map_cons, List.map_nil, h2]
theorem row_other {L : List T} {h c l i : Nat} (hi : i ≠ c / 2 ^ h) : row L h (c + 1) l i = row L h c l i := by
  have hp := Nat.two_pow_pos h
  have h1 := Nat.mod_lt c hp
  have h2 : c / 2 ^ h * 2 ^ h + c % 2 ^ h = c := by rw [Nat.mul_comm]; exact Nat.div_add_mod c _
  unfold row
  congr 2
  rcases Nat.lt_or_gt_of_ne hi with h3 | h3
  · have h4 : (i + 1) * 2 ^ h ≤ c / 2 ^ h * 2 ^ h := Nat.mul_le_mul_right _ h3
    rw [Nat.add_mul, Nat.one_mul] at h4
    omega
  · have h4 : (c / 2 ^ h + 1) * 2 ^ h ≤ i * 2 ^ h := Nat.mul_le_mul_right _ h3
    rw [Nat.add_mul, Nat.one_mul] at h4
    omega
theorem row_append {L M : List T} {h c l i : Nat} (hc : c * 2 ^ l ≤ L.length) : row (L ++ M) h c l i = row L h c l i := by
  unfold row
  apply List.map_congr_left
  intro t ht
  rw [List.mem_range] at ht
  apply hs_append
  have : (i * 2 ^ h + t + 1) * 2 ^ l ≤ c * 2 ^ l := Nat.mul_le_mul_right _ (by omega)
  omega
def rf (L : List T) (h : Nat) (cnt : Nat → Nat) (p : Int × Int) : List T := if 0 ≤ p.1 ∧ 0 ≤ p.2 then row L h (cnt p.1.toNat) p.1.toNat p.2.toNat else []
def cn (n l : Nat) : Nat := n / 2 ^ l
def up (cnt : Nat → Nat) (l : Nat) : Nat → Nat := fun k => if k = l then cnt l + 1 else cnt k
theorem rf_nat (L : List T) (h : Nat) (cnt : Nat → Nat) (l i : Nat) : rf L h cnt ((l : Int), (i : Int)) = row L h (cnt l) l i := by
  unfold rf
  rw [if_pos ⟨Int.natCast_nonneg _, Int.natCast_nonneg _⟩, Int.toNat_natCast, Int.toNat_natCast]
theorem rf_up_same (L : List T) (h : Nat) (cnt : Nat → Nat) (l : Nat) : rf L h (up cnt l) ((l : Int), ((cnt l / 2 ^ h : Nat) : Int)) = rf L h cnt ((l : Int), ((cnt l / 2 ^ h : Nat) : Int)) ++ [hs L l (cnt l)] := by
  rw [rf_nat, rf_nat]
  unfold up
  rw [if_pos rfl]
  exact row_more h (cnt l) l
theorem rf_up_other (L : List T) (h : Nat) (cnt : Nat → Nat) (l : Nat) {p : Int × Int} (hp : p ≠ ((l : Int), ((cnt l / 2 ^ h : Nat) : Int))) : rf L h (up cnt l) p = rf L h cnt p := by
  unfold rf
  by_cases h0 : 0 ≤ p.1 ∧ 0 ≤ p.2
  · rw [if_pos h0, if_pos h0]
    unfold up
    by_cases hl : p.1.toNat = l
    · rw [if_pos hl]
      subst hl
      refine row_other fun e => hp ?_
      have h1 : p.1 = ((p.1.toNat : Nat) : Int) := by omega
      have h2 : p.2 = ((p.2.toNat : Nat) : Int) := by omega
      apply Prod.ext
      · exact h1
      · rw [← e]; exact h2
    · rw [if_neg hl]
  · rw [if_neg h0, if_neg h0]
theorem rf_append {L M : List T} {h : Nat} {cnt : Nat → Nat} (hc : ∀ l, cnt l * 2 ^ l ≤ L.length) (p : Int × Int) : rf (L ++ M) h cnt p = rf L h cnt p := by
  unfold rf
  split
  · exact row_append (hc _)
  · rfl
theorem cn_le (n l : Nat) : cn n l * 2 ^ l ≤ n := Nat.div_mul_le_self n _
def gc (n k : Nat) : Nat → Nat := fun l => if l < k then cn (n + 1) l else cn n l
theorem gc_zero (n : Nat) : gc n 0 = cn n := by funext l; unfold gc; rw [if_neg (by omega)]
theorem cn_more {n k : Nat} (h : 2 ^ k ∣ n + 1) : cn (n + 1) k = cn n k + 1 := by
  unfold cn
  obtain ⟨c, hc⟩ := h
  have hp := Nat.two_pow_pos k
  have h1 : 0 < c := by
    rcases Nat.eq_zero_or_pos c with h0 | h0
    · rw [h0, Nat.mul_zero] at hc; omega
    · exact h0
  rw [hc, Nat.mul_div_cancel_left _ hp]
  have : n / 2 ^ k = c - 1 := by
    apply Nat.div_eq_of_lt_le
    · rw [Nat.mul_comm, Nat.mul_sub]; omega
    · rw [show c - 1 + 1 = c by omega, Nat.mul_comm]; omega
  omega
theorem cn_same {n k : Nat} (h : ¬ 2 ^ k ∣ n + 1) : cn (n + 1) k = cn n k := by
  unfold cn
  have hp := Nat.two_pow_pos k
  have h1 : (n + 1) / 2 ^ k = if 2 ^ k ∣ n + 1 then n / 2 ^ k + 1 else n / 2 ^ k := by rw [Nat.succ_div]; split <;> omega
  rw [h1, if_neg h]
theorem gc_up {n k : Nat} (h : 2 ^ k ∣ n + 1) : up (gc n k) k = gc n (k + 1) := by
  funext l
  unfold up gc
  by_cases hl : l = k
  · subst hl
    rw [if_pos rfl, if_neg (by omega), if_pos (by omega), cn_more h]
  · rw [if_neg hl]
    by_cases h2 : l < k
    · rw [if_pos h2, if_pos (by omega)]
    · rw [if_neg h2, if_neg (by omega)]
theorem gc_end {n k : Nat} (h : ¬ 2 ^ k ∣ n + 1) : gc n k = cn (n + 1) := by
  funext l
  unfold gc
  by_cases hl : l < k
  · rw [if_pos hl]
  · rw [if_neg hl]
    exact (cn_same fun h1 => h (Nat.dvd_trans (Nat.pow_dvd_pow 2 (by omega)) h1)).symm
end Til
end Go.Proofs.YtbodgecbakcaaaaGreatDoor

namespace Go.Proofs.YtbodgecbakcaaaaGreatDoor
open Go.RowKit
theorem ret_int {k : IntKind} {a b : Int} (h : a = b) : Ending.returned (.int k a) = .returned (.int k b) := by rw [h]
set_option maxHeartbeats 400000 in
theorem rotl_any (x n : Nat) (hx : x < 4294967296) (h1 : 1 ≤ n) (h2 : n ≤ 31) (w : World) :
    Calls Tryz.prog 112 #[.int .u32 (x : Int), .int .i64 (-(n : Int))] w fun e w' => e = .returned (.int .u32 (Sha.ror n x : Nat)) ∧ w' = w := by
  have hm := Sha.mask_walk n h1 h2
  have hr := Sha.ror_walk x n hx
  have HR : Hid _ := hr
  clear hr
  obtain ⟨k, hk⟩ : ∃ k : Nat, k = 32 - n := ⟨_, rfl⟩
  rw [← hk] at hm
  have hk1 : (k : Int) ≤ 32 := by omega
  have hk2 : (0 : Int) ≤ k := by omega
  have Hk : Hid _ := hk
  clear hk
  go_enter Tryz.func112, Tryz.ntmps112
  go_wp2
  go_ret
  refine ⟨ret_int ?_, rfl⟩
  have e := HR.out
  rw [IntKind.wrap_u32'] at e
  rw [← e, Hk.out, show 32 - (32 - n) = n from by omega]
set_option maxHeartbeats 400000 in
theorem ror_any (x : Nat) (n : Int) (hx : x < 4294967296) (h1 : 1 ≤ n) (h2 : n ≤ 31) (w : World) :
    Calls Tryz.prog 111 #[.int .u32 (x : Int), .int .i64 n] w fun e w' => e = .returned (.int .u32 (Sha.ror n.toNat x : Nat)) ∧ w' = w := by
  obtain ⟨n, rfl⟩ := Int.eq_ofNat_of_zero_le (show 0 ≤ n by omega)
  rw [Int.toNat_natCast]
  go_enter Tryz.func111, Tryz.ntmps111
  go_wp2_with (go_at_call 112; refine (rotl_any x n hx (by omega) (by omega) _).mono ?_; rintro e w' ⟨rfl, rfl⟩)
  go_ret
  exact ⟨rfl, rfl⟩
end Go.Proofs.YtbodgecbakcaaaaGreatDoor

namespace Go.Proofs.YtbodgecbakcaaaaGreatDoor
open Go.RowKit
def bv (l : List UInt8) : List Value := l.map fun b => .int .u8 (b.toNat : Int)
def wv (l : List Nat) : List Value := l.map fun n => .int .u32 ((n : Nat) : Int)
theorem bv_cell {bl : List UInt8} {w' : World} {g : Nat} {t : TypeId} (h : w'.heap[g]? = some (.cells (bv bl).toArray t (0, 0))) (j : Nat) (hj : j < bl.length) :
    ∃ x : Nat, Hid (x = (bl.getD j 0).toNat) ∧ x < 256 ∧ w'.cell? ⟨g, j, none⟩ = some (.int .u8 (x : Int)) := by
  refine ⟨_, rfl, UInt8.toNat_lt _, ?_⟩
  rw [cell_of_row w' g j _ t _ h]
  simp [bv, hj]
theorem wv_cell {l : List Nat} {w' : World} {g : Nat} {t : TypeId} (h : w'.heap[g]? = some (.cells (wv l).toArray t (0, 0))) (j : Nat) (hj : j < l.length) :
    w'.cell? ⟨g, j, none⟩ = some (.int .u32 ((l.getD j 0 : Nat) : Int)) := by
  rw [cell_of_row w' g j _ t _ h]
  simp [wv, hj]
theorem wv_set (l : List Nat) (m v : Nat) (h : 0 < m) : (wv (l ++ List.replicate m 0)).toArray.setIfInBounds l.length (.int .u32 (v : Int)) = (wv ((l ++ [v]) ++ List.replicate (m - 1) 0)).toArray := by
  obtain ⟨m, rfl⟩ : ∃ n, m = n + 1 := ⟨m - 1, by omega⟩
  simp [wv, List.replicate_succ]
theorem Below.setRow {B : Nat} {a w : World} (h : Below B a w) {g : Nat} (hg : B ≤ g) (cs : Array Value) : Below B a (w.setRow g cs) :=
  ⟨h.os, h.tape, h.output, by rw [setRow_size]; exact h.size, fun k hk => (setRow_other w g k cs (by omega)).trans (h.block k hk)⟩
theorem wv_one (l : List Nat) : (wv l).toArray.all (·.oneCell') = true := by
  refine all_oneCell_toArray fun v hv => ?_
  simp only [wv, List.mem_map] at hv
  obtain ⟨n, _, rfl⟩ := hv
  rfl
theorem val_int {k : IntKind} {a b : Int} (h : a = b) : Value.int k a = .int k b := by rw [h]
theorem addSt_walk (s : Sha.St) (a b c d e f g h : Nat) :
    #[Value.int .u32 (((s.a : Int) + (a : Int)) % 4294967296), Value.int .u32 (((s.b : Int) + (b : Int)) % 4294967296), Value.int .u32 (((s.c : Int) + (c : Int)) % 4294967296), Value.int .u32 (((s.d : Int) + (d : Int)) % 4294967296), Value.int .u32 (((s.e : Int) + (e : Int)) % 4294967296), Value.int .u32 (((s.f : Int) + (f : Int)) % 4294967296), Value.int .u32 (((s.g : Int) + (g : Int)) % 4294967296), Value.int .u32 (((s.h : Int) + (h : Int)) % 4294967296)]
      = (wv (Sha.addSt s ⟨a, b, c, d, e, f, g, h⟩).l).toArray := by
  simp only [Sha.sum_walk']; rfl
theorem heap_alloc_at (w : World) (o : Obj) (n : Nat) (h : w.heap.size = n) : (w.alloc o).heap[n]? = some o := by
  subst h; exact heap_alloc_new w o
theorem size_alloc (w : World) (o : Obj) : (w.alloc o).heap.size = w.heap.size + 1 := by
  show (w.heap.push o).size = _; simp
theorem alloc3 (w : World) (a b c : Obj) : (((w.alloc a).alloc b).alloc c).heap[w.heap.size]? = some a ∧ (((w.alloc a).alloc b).alloc c).heap[w.heap.size + 1]? = some b ∧ (((w.alloc a).alloc b).alloc c).heap[w.heap.size + 1 + 1]? = some c ∧ (((w.alloc a).alloc b).alloc c).heap.size = w.heap.size + 3 := by
  have s1 := size_alloc w a
  have s2 := size_alloc (w.alloc a) b
  refine ⟨?_, ?_, ?_, ?_⟩
  · rw [Below.heap_alloc _ _ _ (by omega), Below.heap_alloc _ _ _ (by omega)]; exact heap_alloc_new w a
  · rw [Below.heap_alloc _ _ _ (by omega)]; exact heap_alloc_at _ _ _ s1
  · exact heap_alloc_at _ _ _ (by omega)
  · rw [size_alloc]; omega
theorem below_alloc3 (w : World) (a b c : Obj) : Below w.heap.size w (((w.alloc a).alloc b).alloc c) := by
  have s1 := size_alloc w a
  have s2 := size_alloc (w.alloc a) b
  exact (((Below.refl _ _).alloc (Nat.le_refl _) _).alloc (by omega) _).alloc (by omega) _
end Go.Proofs.YtbodgecbakcaaaaGreatDoor

namespace Go.Proofs.YtbodgecbakcaaaaGreatDoor
open Go.RowKit
open Go.WideMaps (KeyLaw)
open Go.ChangeMaps (setBlock)
open Go.MapKept (Stamped)
theorem laidOutT : laidOutB Tryz.prog = true := by kernel_rfl
theorem rowPl : (127 : TypeId) < Tryz.prog.types.size := of_decide_eq_true (by kernel_rfl)
theorem widePl : (match Tryz.prog.underlying 127 with | some (.array _ _) | some (.struct _) => true | _ => false) = true := by kernel_rfl
theorem keyAtPl : Tryz.prog.keyTypeAt 2 127 = true := by kernel_rfl
set_option maxRecDepth 1000000 in
theorem lawPl : KeyLaw Tryz.prog 127 := deep_law_laid laidOutT (m := 2) (by omega) rowPl keyAtPl widePl
theorem undMp : Tryz.prog.underlying 89 = some (.map 127 23) := by kernel_rfl
theorem infoSl : (Tryz.prog.info? 23).map (fun i => (i.zero, i.size, i.bytes)) = some (some (.slice none 0 0), 1, 24) := by kernel_rfl
theorem zeroSl (w : World) : (zeroValue 23).run Tryz.prog w = .ok (.slice none 0 0) w := by
  obtain ⟨i0, hi, hz0, hz1, hz2⟩ := info_parts infoSl
  simp [zeroValue, typeInfo, hi, hz0]
def kv (p : Int × Int) : Value := .agg #[.int .i64 p.1, .int .i64 p.2]
def InR (p : Int × Int) : Prop := (-9223372036854775808 ≤ p.1 ∧ p.1 ≤ 9223372036854775807) ∧ -9223372036854775808 ≤ p.2 ∧ p.2 ≤ 9223372036854775807
theorem kv_inj {p q : Int × Int} (h : kv p = kv q) : p = q := by
  unfold kv at h
  injection h with h
  have h0 := congrArg (fun a : Array Value => a[0]?) h
  have h1 := congrArg (fun a : Array Value => a[1]?) h
  simp at h0 h1
  exact Prod.ext h0 h1
theorem wf64 {a : Int} (h1 : -9223372036854775808 ≤ a) (h2 : a ≤ 9223372036854775807) : (Lit.int .i64 a).wf = true := by
  unfold Lit.wf
  simp [IntKind.min, IntKind.max, IntKind.signed, IntKind.bits]
  omega
theorem keyTy : Tryz.prog.keyType 127 = true := by kernel_rfl
theorem cellsPl : Tryz.prog.cellsOf 127 = 2 := by kernel_rfl
theorem cellsIT : Tryz.prog.cellsOf 3 = 1 := by kernel_rfl
theorem typesT : Tryz.prog.types.size + 1 = (Tryz.prog.types.size - 1) + 1 + 1 := by have h : 0 < Tryz.prog.types.size := Nat.lt_of_le_of_lt (Nat.zero_le _) rowPl; omega
theorem undPl : ∃ f g : Field, Tryz.prog.underlying 127 = some (.struct #[f, g]) ∧ f.type = 3 ∧ g.type = 3 ∧ f.offset = 0 ∧ g.offset = 1 ∧ (f.name != "_") = true ∧ (g.name != "_") = true := by
  exact ⟨_, _, Tryz.underlying127, rfl, rfl, rfl, rfl, by decide, by decide⟩
theorem keyPl {p : Int × Int} (h : InR p) : ∃ l, keyOf Tryz.prog 127 (kv p) = some l := by
  have h1 := wf64 h.1.1 h.1.2
  have h2 := wf64 h.2.1 h.2.2
  obtain ⟨f, g, hu, hf, hg, hfo, hgo, hfn, hgn⟩ := undPl
  have k1 : ∀ (n : Nat) (a : Int), (Lit.int .i64 a).wf = true → Tryz.prog.keyLits (n + 1) 3 [.int .i64 a] = some [.int .i64 a] := fun n a ha => by
    unfold Program.keyLits
    simp [ha]
  have hfm : (kv p).formed Tryz.prog 127 = true := by
    unfold kv Value.formed
    rw [hu]
    simp [cellsPl]
  have h3 : Tryz.prog.keyLits (Tryz.prog.types.size + 1) 127 (kv p).cells.toList = some [.int .i64 p.1, .int .i64 p.2] := by
    have e : (kv p).cells.toList = [.int .i64 p.1, .int .i64 p.2] := rfl
    rw [typesT, e]
    unfold Program.keyLits
    rw [hu]
    simp [cellsPl, cellsIT, hf, hg, hfo, hgo, hfn, hgn, k1 _ _ h1, k1 _ _ h2]
  refine ⟨.string (keyBytes [.int .i64 p.1, .int .i64 p.2]), ?_⟩
  unfold keyOf
  rw [hu]
  simp only [keyTy, hfm, Bool.and_self, if_true, h3, Option.map_some]
def Mp (w : World) (b : Nat) (es : List ((Int × Int) × Value)) : Prop :=
  ∃ arr clock, w.heap[b]? = some (.map arr clock) ∧ (∀ x ∈ arr.toList, x.born < clock) ∧ (arr.toList.map (·.born)).Nodup ∧ arr.toList.map (fun e => (e.key, e.val)) = es.map (fun x => (kv x.1, x.2)) ∧ es.Pairwise (fun x y => x.1 ≠ y.1) ∧ ∀ x ∈ es, InR x.1
def has (es : List ((Int × Int) × Value)) (p : Int × Int) : Prop := ∃ v, (p, v) ∈ es
def look (es : List ((Int × Int) × Value)) (p : Int × Int) : Value := ((es.find? (fun x => x.1 == p)).map (·.2)).getD (.slice none 0 0)
def put (es : List ((Int × Int) × Value)) (p : Int × Int) (v : Value) : List ((Int × Int) × Value) := if es.any (fun x => x.1 == p) then es.map (fun x => if x.1 == p then (p, v) else x) else es ++ [(p, v)]
theorem Mp.heap {w w' : World} {b : Nat} {es : List ((Int × Int) × Value)} (h : Mp w b es) (hb : w'.heap[b]? = w.heap[b]?) : Mp w' b es := by
  obtain ⟨arr, clock, h1, h2⟩ := h
  exact ⟨arr, clock, hb.trans h1, h2⟩
theorem Mp.lt {w : World} {b : Nat} {es : List ((Int × Int) × Value)} (h : Mp w b es) : b < w.heap.size := by
  obtain ⟨arr, clock, h1, _⟩ := h
  exact (Array.getElem?_eq_some_iff.1 h1).1
theorem Mp.new (w : World) : Mp (w.alloc (.map #[] 0)) w.heap.size [] :=
  ⟨#[], 0, (MapKept.heap_alloc w _).1, by simp, by simp, rfl, List.Pairwise.nil, by simp⟩
theorem look_mem {es : List ((Int × Int) × Value)} {p : Int × Int} {v : Value} (hn : es.Pairwise (fun x y => x.1 ≠ y.1)) (h : (p, v) ∈ es) : look es p = v := by
  unfold look
  induction es with
  | nil => cases h
  | cons x es ih =>
    obtain ⟨h1, h2⟩ := List.pairwise_cons.1 hn
    rw [List.find?_cons]
    rcases List.mem_cons.1 h with e | e
    · rw [← e]; simp
    · have : (x.1 == p) = false := beq_false_of_ne (h1 _ e)
      rw [this]
      exact ih h2 e
theorem look_none {es : List ((Int × Int) × Value)} {p : Int × Int} (h : ¬ has es p) : look es p = .slice none 0 0 := by
  unfold look
  have : es.find? (fun x => x.1 == p) = none := by
    rw [List.find?_eq_none]
    intro x hx e
    exact h ⟨x.2, by rw [← eq_of_beq e]; exact hx⟩
  rw [this]; rfl
theorem any_has {es : List ((Int × Int) × Value)} {p : Int × Int} : es.any (fun x => x.1 == p) = true ↔ has es p := by
  rw [List.any_eq_true]
  constructor
  · rintro ⟨x, hx, e⟩
    exact ⟨x.2, by rw [← eq_of_beq e]; exact hx⟩
  · rintro ⟨v, hv⟩
    exact ⟨_, hv, by simp⟩
theorem put_hit {es : List ((Int × Int) × Value)} {p : Int × Int} (h : has es p) (v : Value) : put es p v = es.map (fun x => if x.1 == p then (p, v) else x) := by
  unfold put; rw [if_pos (any_has.2 h)]
theorem put_new {es : List ((Int × Int) × Value)} {p : Int × Int} (h : ¬ has es p) (v : Value) : put es p v = es ++ [(p, v)] := by
  unfold put; rw [if_neg (fun e => h (any_has.1 e))]
theorem mem_put {es : List ((Int × Int) × Value)} {p q : Int × Int} {v u : Value} : (q, u) ∈ put es p v ↔ (q = p ∧ u = v) ∨ (q ≠ p ∧ (q, u) ∈ es) := by
  by_cases h : has es p
  · rw [put_hit h, List.mem_map]
    constructor
    · rintro ⟨x, hx, e⟩
      by_cases hp : x.1 == p
      · rw [if_pos hp] at e; cases e; exact .inl ⟨rfl, rfl⟩
      · rw [if_neg hp] at e; subst e; exact .inr ⟨fun e => hp (by simp [e]), hx⟩
    · rintro (⟨rfl, rfl⟩ | ⟨h1, h2⟩)
      · obtain ⟨v', hv'⟩ := h
        exact ⟨_, hv', by simp⟩
      · exact ⟨_, h2, by simp [h1]⟩
  · rw [put_new h, List.mem_append, List.mem_singleton]
    constructor
    · rintro (h1 | h1)
      · exact .inr ⟨fun e => h ⟨u, by rw [← e]; exact h1⟩, h1⟩
      · cases h1; exact .inl ⟨rfl, rfl⟩
    · rintro (⟨rfl, rfl⟩ | ⟨_, h2⟩)
      · exact .inr rfl
      · exact .inl h2
theorem put_keys {es : List ((Int × Int) × Value)} {p : Int × Int} {v : Value} (hn : es.Pairwise (fun x y => x.1 ≠ y.1)) : (put es p v).Pairwise (fun x y => x.1 ≠ y.1) := by
  by_cases h : has es p
  · rw [put_hit h, List.pairwise_map]
    refine hn.imp ?_
    intro x y hxy
    by_cases h1 : x.1 == p <;> by_cases h2 : y.1 == p
    · exact absurd ((eq_of_beq h1).trans (eq_of_beq h2).symm) hxy
    · rw [if_pos h1, if_neg h2]; intro e; exact h2 (by simp at e; simp [← e])
    · rw [if_neg h1, if_pos h2]; intro e; exact h1 (by simp at e; simp [e])
    · rw [if_neg h1, if_neg h2]; exact hxy
  · rw [put_new h, List.pairwise_append]
    refine ⟨hn, List.pairwise_singleton _ _, fun x hx y hy e => ?_⟩
    rw [List.mem_singleton] at hy
    subst hy
    exact h ⟨x.2, by simp only at e; rw [← e]; exact hx⟩
end Go.Proofs.YtbodgecbakcaaaaGreatDoor

namespace Go.Proofs.YtbodgecbakcaaaaGreatDoor
open Go.RowKit
structure SchedInv (bl : List UInt8) (w : World) (k : Nat) (w' : World) : Prop where
  blk0 : w'.heap[w.heap.size]? = some (.cells (bv bl).toArray 138 (0, 0))
  blk1 : ∃ cs, cs.size = 64 ∧ w'.heap[w.heap.size + 1]? = some (.cells cs 154 (0, 0))
  blk2 : w'.heap[w.heap.size + 1 + 1]? = some (.cells (wv (Sha.sched bl k ++ List.replicate (64 - k) 0)).toArray 154 (0, 0))
  size : w'.heap.size = w.heap.size + 3
  below : Below w.heap.size w w'
theorem info64w : (Tryz.prog.info? 154).map (·.size) = some 64 := by kernel_rfl
theorem SchedInv.word {bl : List UInt8} {w : World} {k : Nat} {w' : World} (inv : SchedInv bl w k w') (j : Nat) (hj : j < k) :
    ∃ y : Nat, Hid (y = (Sha.sched bl k).getD j 0) ∧ y < 4294967296 ∧ w'.cell? ⟨w.heap.size + 1 + 1, j, none⟩ = some (.int .u32 (y : Int)) := by
  refine ⟨_, rfl, Sha.sched_getD_lt bl k j, ?_⟩
  rw [wv_cell inv.blk2 j (by simp [Sha.sched_length]; omega)]
  simp only [List.getD_eq_getElem?_getD]
  rw [List.getElem?_append_left (by rw [Sha.sched_length]; exact hj)]
theorem SchedInv.set {bl : List UInt8} {w : World} {k : Nat} {w' : World} (inv : SchedInv bl w k w') (hk : k < 64) :
    SchedInv bl w (k + 1) (w'.setCell ⟨w.heap.size + 1 + 1, k, none⟩ (.int .u32 ((Sha.wNext bl (Sha.sched bl k) k : Nat) : Int))).drew := by
  have hl := Sha.sched_length bl k
  refine ⟨?_, ?_, ?_, ?_, ?_⟩
  · rw [heap_drew, heap_setCell_other _ _ _ _ (by show w.heap.size ≠ w.heap.size + 1 + 1; omega)]; exact inv.blk0
  · obtain ⟨cs, h1, h2⟩ := inv.blk1
    exact ⟨cs, h1, by rw [heap_drew, heap_setCell_other _ _ _ _ (by show w.heap.size + 1 ≠ w.heap.size + 1 + 1; omega)]; exact h2⟩
  · rw [heap_drew, heap_setCell_same _ _ _ _ _ _ inv.blk2]
    have := wv_set (Sha.sched bl k) (64 - k) (Sha.wNext bl (Sha.sched bl k) k) (by omega)
    rw [hl] at this
    rw [this, show 64 - k - 1 = 64 - (k + 1) from by omega]
    rfl
  · rw [heap_drew]; simpa using inv.size
  · exact (inv.below.setCell (by simp; omega) _).drew
theorem schedInv_start (bl : List UInt8) (w : World) :
    SchedInv bl w 0 (((w.alloc (.cells (bv bl).toArray 138)).alloc (.cells (wv (List.replicate 64 0)).toArray 154)).alloc (.cells (wv (List.replicate 64 0)).toArray 154)) := by
  obtain ⟨h0, h1, h2, h3⟩ := alloc3 w (.cells (bv bl).toArray 138) (.cells (wv (List.replicate 64 0)).toArray 154) (.cells (wv (List.replicate 64 0)).toArray 154)
  exact ⟨h0, ⟨_, by simp [wv], h1⟩, h2, h3, below_alloc3 _ _ _ _⟩
set_option maxHeartbeats 400000 in
theorem schedule_any (bl : List UInt8) (hb : bl.length = 64) (w : World) :
    Calls Tryz.prog 110 #[.agg (bv bl).toArray] w fun e w' => e = .returned (.agg (wv (Sha.sched bl 64)).toArray) ∧ Below w.heap.size w w' := by
  go_enter Tryz.func110, Tryz.ntmps110
  go_wp2
  go_loopw [11] (fun i w' => ∃ k : Nat, k ≤ 16 ∧ i = .int .i64 k ∧ SchedInv bl w k w') (fun i _ => 16 - (intOf i).toNat)
  case atStart =>
    exact ⟨0, by omega, rfl, schedInv_start bl w⟩
  case round =>
    obtain ⟨k, hk, rfl, inv⟩ := hrel
    by_cases hlt : k < 16
    · have b1 : (0 : Int) ≤ 4 * (k : Int) := by omega
      have b2 : 4 * (k : Int) < 64 := by omega
      have b4 : 4 * (k : Int) + 1 < 64 := by omega
      have b5 : 4 * (k : Int) + 2 < 64 := by omega
      have b6 : 4 * (k : Int) + 3 < 64 := by omega
      have b7 : 0 ≤ 4 * (k : Int) + 1 := by omega
      have b8 : 0 ≤ 4 * (k : Int) + 2 := by omega
      have b9 : 0 ≤ 4 * (k : Int) + 3 := by omega
      have v1 : IntKind.i64.wrap (4 * (k : Int) + 1) = 4 * (k : Int) + 1 := wrap_small _ (by omega) (by omega)
      have v2 : IntKind.i64.wrap (4 * (k : Int) + 2) = 4 * (k : Int) + 2 := wrap_small _ (by omega) (by omega)
      have v3 : IntKind.i64.wrap (4 * (k : Int) + 3) = 4 * (k : Int) + 3 := wrap_small _ (by omega) (by omega)
      have n1 : ¬ (w.heap.size + 1 + 1 = w.heap.size) := by omega
      have n2 : ¬ (w.heap.size = w.heap.size + 1 + 1) := by omega
      have t0 : (4 * (k : Int)).toNat = 4 * k := by omega
      have t1 : (4 * (k : Int) + 1).toNat = 4 * k + 1 := by omega
      have t2 : (4 * (k : Int) + 2).toNat = 4 * k + 2 := by omega
      have t3 : (4 * (k : Int) + 3).toNat = 4 * k + 3 := by omega
      have b3 : (k : Int) < 64 := by omega
      obtain ⟨x0, e0, l0, c0⟩ := bv_cell inv.blk0 (4 * k) (by omega)
      obtain ⟨x1, e1, l1, c1⟩ := bv_cell inv.blk0 (4 * k + 1) (by omega)
      obtain ⟨x2, e2, l2, c2⟩ := bv_cell inv.blk0 (4 * k + 2) (by omega)
      obtain ⟨x3, e3, l3, c3⟩ := bv_cell inv.blk0 (4 * k + 3) (by omega)
      have c4 := wv_cell inv.blk2 k (by simp [Sha.sched_length]; omega)
      have f4 : wr.frozen? ⟨w.heap.size + 1 + 1, k, none⟩ = false := frozen_of_row _ _ _ _ _ inv.blk2
      go_wp2
      go_region_held3 (fun w' => w'.cell? ⟨w.heap.size, 4 * k, none⟩ = some (.int .u8 x0) ∧ w'.cell? ⟨w.heap.size, 4 * k + 1, none⟩ = some (.int .u8 x1) ∧ w'.cell? ⟨w.heap.size, 4 * k + 2, none⟩ = some (.int .u8 x2) ∧ w'.cell? ⟨w.heap.size, 4 * k + 3, none⟩ = some (.int .u8 x3)) (go_keep) (fail)
      go_wp2
      go_roundw
      case rel =>
        go_light
        refine ⟨k + 1, by omega, by go_num, ?_⟩
        have e := Sha.word_walk x0 x1 x2 x3 l0 l1 l2 l3
        have g := SchedInv.set inv (by omega)
        rw [Sha.wNext, if_pos hlt, ← e0.out, ← e1.out, ← e2.out, ← e3.out, ← e] at g
        exact g
      case measure => simp [intOf]; omega
    · obtain rfl : k = 16 := by omega
      go_wp2
      go_loopw [6] (fun i w' => ∃ t : Nat, 16 ≤ t ∧ t ≤ 64 ∧ i = .int .i64 t ∧ SchedInv bl w t w') (fun i _ => 64 - (intOf i).toNat)
      case atStart => exact ⟨16, by omega, by omega, rfl, inv⟩
      case round =>
        obtain ⟨t, ht0, ht, rfl, inv⟩ := hrel
        by_cases hlt : t < 64
        · have b1 : (0 : Int) ≤ (t : Int) - 2 := by omega
          have b2 : (t : Int) - 2 < 64 := by omega
          have b3 : (t : Int) < 64 := by omega
          have b4 : (0 : Int) ≤ (t : Int) - 7 := by omega
          have b5 : (t : Int) - 7 < 64 := by omega
          have b6 : (0 : Int) ≤ (t : Int) - 15 := by omega
          have b7 : (t : Int) - 15 < 64 := by omega
          have b8 : (0 : Int) ≤ (t : Int) - 16 := by omega
          have b9 : (t : Int) - 16 < 64 := by omega
          have d1 : (7 : Int) ≤ (t : Int) := by omega
          have d2 : (16 : Int) ≤ (t : Int) := by omega
          obtain ⟨o7, ho7⟩ : ∃ o, o = t - 7 := ⟨_, rfl⟩
          obtain ⟨o16, ho16⟩ : ∃ o, o = t - 16 := ⟨_, rfl⟩
          have n1 : ¬ (t = o7) := by omega
          have n2 : ¬ (t = o16) := by omega
          have n3 : ¬ (o7 = t) := by omega
          have n4 : ¬ (o16 = t) := by omega
          have t1 : ((t : Int) - 7).toNat = o7 := by omega
          have t3 : ((t : Int) - 16).toNat = o16 := by omega
          have v1 : IntKind.i64.wrap ((t : Int) - 2) = (t : Int) - 2 := wrap_small _ (by omega) (by omega)
          have v2 : IntKind.i64.wrap ((t : Int) - 7) = (t : Int) - 7 := wrap_small _ (by omega) (by omega)
          have v3 : IntKind.i64.wrap ((t : Int) - 15) = (t : Int) - 15 := wrap_small _ (by omega) (by omega)
          have v4 : IntKind.i64.wrap ((t : Int) - 16) = (t : Int) - 16 := wrap_small _ (by omega) (by omega)
          have t0 : ((t : Int) - 2).toNat = t - 2 := by omega
          have t2 : ((t : Int) - 15).toNat = t - 15 := by omega
          obtain ⟨y2, e2, l2, c2⟩ := SchedInv.word inv (t - 2) (by omega)
          obtain ⟨y7, e7, l7, c7⟩ := SchedInv.word inv o7 (by omega)
          obtain ⟨y15, e15, l15, c15⟩ := SchedInv.word inv (t - 15) (by omega)
          obtain ⟨y16, e16, l16, c16⟩ := SchedInv.word inv o16 (by omega)
          have Ho7 : Hid _ := ho7
          have Ho16 : Hid _ := ho16
          clear ho7 ho16
          have c4 := wv_cell inv.blk2 t (by simp [Sha.sched_length]; omega)
          have f4 : wr.frozen? ⟨w.heap.size + 1 + 1, t, none⟩ = false := frozen_of_row _ _ _ _ _ inv.blk2
          have hs0 := Sha.s0_walk y15 l15
          have hs1 := Sha.s1_walk y2 l2
          go_wp2
          go_quiet (fail)
          go_wp2_with (go_at_call 111; refine (ror_any _ _ (by assumption) (by omega) (by omega) _).mono ?_; rintro e w' ⟨rfl, rfl⟩)
          go_region_held3 (fun w' => w'.cell? ⟨w.heap.size + 1 + 1, o7, none⟩ = some (.int .u32 y7) ∧ w'.cell? ⟨w.heap.size + 1 + 1, o16, none⟩ = some (.int .u32 y16)) (first | go_keep | simp [*, World.cell?_setCell_other]) (fail)
          go_wp2
          go_roundw
          case rel =>
            go_light
            have g := SchedInv.set (w' := wr.drewN nq) ⟨inv.blk0, inv.blk1, inv.blk2, inv.size, below_drewN inv.below nq⟩ hlt
            rw [Sha.wNext, if_neg (by omega), ← e2.out, ← Ho7.out, ← e7.out, ← e15.out, ← Ho16.out, ← e16.out] at g
            (repeat apply Exists.intro)
            refine ⟨⟨t + 1, by omega, by omega, by go_num, ?_⟩, rfl⟩
            rw [Sha.sum4_mod]
            exact g
          case measure => simp [intOf]; omega
        · obtain rfl : t = 64 := by omega
          have hb2 : wr.heap[w.heap.size + 1 + 1]? = some (.cells (wv (Sha.sched bl 64)).toArray 154 (0, 0)) := by simpa using inv.blk2
          obtain ⟨cs, hcs, hb1⟩ := inv.blk1
          have hsz : (Tryz.prog.info? 154).map (·.size) = some (wv (Sha.sched bl 64)).toArray.size := by rw [info64w]; simp [wv, Sha.sched_length]
          go_wp2_with (first | (with_reducible show wpList _ _ _ (Oper.mk _ (Op.load _ _) _ _ _ _ :: _) _ _; refine wpList_load_row rfl 154 _ rfl (w.heap.size + 1 + 1) rfl 154 _ (0, 0) _ hb2 Tryz.underlying154 rfl hsz ?_) | (with_reducible show wpList _ _ _ (Oper.mk _ (Op.store _ _ _) _ _ _ _ :: _) _ _; refine wpList_store_row rfl 154 _ _ rfl (w.heap.size + 1) _ rfl rfl 154 cs hb1 hsz (by simp [wv, Sha.sched_length, hcs]) (wv_one _) ?_))
          refine bodyPost_ret (v := .agg (wv (Sha.sched bl 64)).toArray) (results_cell_row rfl _ _ (w.heap.size + 1) 154 _ (0, 0) _ rfl (setRow_heap _ _ cs _ _ _ hb1) Tryz.underlying154 rfl hsz) rfl ⟨rfl, ?_⟩
          exact Below.setRow inv.below (by omega) _
end Go.Proofs.YtbodgecbakcaaaaGreatDoor
