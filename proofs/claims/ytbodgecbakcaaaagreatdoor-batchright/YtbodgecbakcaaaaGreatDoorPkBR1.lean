import Derived.Test.YtbodgecbakcaaaaGreatDoorPkSP18
import Derived.Test.YtbodgecbakcaaaaGreatDoorPkFR1
import Derived.BigQuiet
import Derived.Deep.RegionHeld3
import Derived.Test.YtbodgecbakcaaaaGreatDoorPkR5
import Derived.Test.YtbodgecbakcaaaaGreatDoorPkSP4
import Derived.Test.YtbodgecbakcaaaaGreatDoorPkO23
import Derived.Test.YtbodgecbakcaaaaGreatDoorPkW3
import Derived.Laws.ResultCell
namespace Go.Proofs.YtbodgecbakcaaaaGreatDoor
open Go.RowKit Go.Shelf
namespace Bat
theorem append_spl12 (w : World) (v1 v2 : Value) (l m : List (Nat × Nat)) (h1 : OwnP w v1 l) (h2 : OwnP w v2 m) (hl : l.length ≤ 1099511627776) (hm : m.length ≤ 1099511627776) :
    ∃ v' w', (Builtin.append_ #[30, 30] 30 #[v1, v2]).run Tryz.prog w = .ok v' w' ∧ OwnP w' v' (l ++ m) ∧ Grow w w' v1 v' := by
  obtain ⟨i0, hi, hz0, hz1, hz2⟩ := info_parts infoSp8
  have one : ∀ u ∈ prs m, u.oneCell' = true := fun u hu => by
    simp only [prs, List.mem_flatMap, List.mem_cons, List.not_mem_nil, or_false] at hu
    obtain ⟨q, _, rfl | rfl⟩ := hu <;> rfl
  have hsrc : Src Tryz.prog 2 30 v2 m.length (prs m) w := by
    rcases h2 with ⟨rfl, h, h'⟩ | ⟨g, cap, rfl, _, _, h0, h4, _, _⟩
    · rw [h, h']; exact Src.ofNil w Tryz.underlying30 0
    · exact Src.ofSlice w Tryz.underlying30 ⟨g, 0, none⟩ m.length cap (prs m) h0 (fun j u hj => by rw [Addr.add_mid]; exact h4 j u hj) one
  by_cases hz : v1 = .slice none 0 0 ∧ m.length = 0
  · obtain ⟨rfl, hm0⟩ := hz
    have hl0 : l.length = 0 := by
      rcases h1 with ⟨_, h, _⟩ | ⟨g, cap, h, _⟩
      · exact h
      · cases h
    obtain rfl : l = [] := List.length_eq_zero_iff.1 hl0
    obtain rfl : m = [] := List.length_eq_zero_iff.1 hm0
    refine ⟨.slice none 0 0, w, ?_, OwnM.nil 2 w, ⟨rfl, rfl, rfl, Nat.le_refl _, fun _ _ _ => rfl, .inl rfl⟩⟩
    rcases h2 with ⟨rfl, _⟩ | ⟨g, cap, rfl, _⟩
    · kernel_rfl
    · kernel_rfl
  · obtain ⟨v', w', a1, a2, a3⟩ := run_append_M (P := Tryz.prog) w 30 30 30 62 i0 (.agg #[.int .i64 0, .int .i64 0]) Tryz.underlying30 hi hz0 hz1 rfl v1 l.length (prs l) h1 v2 m.length (prs m) hsrc
      (by rw [hz2]; omega) (by rw [maxLen]; omega) (fun e => by
        rcases Nat.eq_zero_or_pos m.length with h | h
        · exact absurd ⟨e, h⟩ hz
        · exact h)
    refine ⟨v', w', a1, ?_, a3⟩
    rw [OwnP, prs_append, List.length_append]
    exact a2
theorem wit_wit {l : List Nat} {b e x y : Nat} (h1 : b ≤ x) (h2 : y ≤ e) : Tree.wit (Tree.wit l b e) x y = Tree.wit l x y := by
  unfold Tree.wit
  rw [List.filter_filter]
  congr 1
  funext i
  rw [Bool.eq_iff_iff]
  simp
  omega
theorem tch_wit {l : List Nat} {b e x y : Nat} (h1 : b ≤ x) (h2 : y ≤ e) : Tree.tch (Tree.wit l b e) x y = Tree.tch l x y := by
  rw [Bool.eq_iff_iff, Tree.tch_mem, Tree.tch_mem]
  constructor
  · rintro ⟨i, hi, h3, h4⟩
    exact ⟨i, (List.mem_filter.1 hi).1, h3, h4⟩
  · rintro ⟨i, hi, h3, h4⟩
    exact ⟨i, List.mem_filter.2 ⟨hi, by simp; omega⟩, h3, h4⟩
theorem oth_wit {l : List Nat} {B E : Nat} : ∀ (f b m : Nat), B ≤ b → b + m ≤ E → Tree.othF f b m (Tree.wit l B E) = Tree.othF f b m l
  | 0, b, m, _, _ => rfl
  | f + 1, b, m, h1, h2 => by
    rw [Tree.othF, Tree.othF, tch_wit h1 h2]
    split
    · rfl
    · split
      · rfl
      · have s1 := Tree.sp_lt (n := m) (by omega)
        have s2 := Tree.sp_pos (n := m) (by omega)
        rw [oth_wit f b (Tree.sp m) h1 (by omega), oth_wit f (b + Tree.sp m) (m - Tree.sp m) (by omega) (by omega)]
set_option maxRecDepth 100000 in
set_option maxHeartbeats 4000000 in
theorem within12_any (l : List Nat) (b e : Nat) (hl : l.length ≤ 256) (a : Option Addr) (ca : Nat) (w : World) (hA : AtI w a (ix l)) :
    Calls Tryz.prog 31 #[.slice a l.length ca, .int .i64 (b : Int), .int .i64 (e : Int)] w fun r w' => ∃ v, r = .returned v ∧ Own w' w.heap.size v (ivs (ix (Tree.wit l b e))) ∧ Below w.heap.size w w' := by
  have HA := hid hA
  obtain ⟨N, hN⟩ : ∃ N : Nat, Hid (l.length = N) := ⟨_, rfl⟩
  rw [hN.out] at hl ⊢
  clear hA
  go_enter Tryz.func31, Tryz.ntmps31
  go_wp2
  go_loopw [7, 8] (fun v i w' => ∃ k : Nat, k ≤ N ∧ i = .int .i64 (k : Int) ∧ Hid (Own w' w.heap.size v (ivs (ix (Tree.wit (l.take k) b e)))) ∧ Hid (Below w.heap.size w w')) (fun _ i _ => N - (intOf i).toNat)
  case atStart => exact ⟨0, by omega, rfl, Own.nil _ _, Below.refl _ _⟩
  case round =>
    obtain ⟨k, hk, rfl, hO, hB⟩ := hrel
    by_cases hkN : k < N
    · have b0 : (k : Int) < (N : Int) := by omega
      have hkl : k < l.length := by rw [hN.out]; exact hkN
      have hkx : k < (ix l).length := by simp [ix]; exact hkl
      obtain ⟨x, rfl, _, hc⟩ := (HA.out.below hB.out (Nat.le_refl _)) k (ix l)[k] (List.getElem?_eq_getElem hkx)
      rw [show (ix l)[k] = ((l[k] : Nat) : Int) by simp [ix]] at hc
      have hst := hid (show Tree.wit (l.take (k + 1)) b e = Tree.wit (l.take k) b e ++ (if b ≤ l[k] ∧ l[k] < e then [l[k]] else []) by
        unfold Tree.wit
        rw [List.take_add_one, List.getElem?_eq_getElem hkl, List.filter_append]
        congr 1
        by_cases c : b ≤ l[k] ∧ l[k] < e
        · rw [if_pos c]; simp [c]
        · rw [if_neg c]; simp [c])
      have hlen : (ix (Tree.wit (l.take k) b e)).length ≤ 2000000 := by
        have := List.length_filter_le (fun i => decide (b ≤ i ∧ i < e)) (l.take k)
        simp only [ix, List.length_map, Tree.wit]
        rw [List.length_take] at this
        omega
      generalize l[k] = i at *
      by_cases c1 : b ≤ i
      · have d1 : (b : Int) ≤ (i : Int) := by omega
        by_cases c2 : i < e
        · have d2 : (i : Int) < (e : Int) := by omega
          obtain ⟨v3, w3, hap, hO3, hb3⟩ := append_int wr w.heap.size _ (ix (Tree.wit (l.take k) b e)) (i : Int) hO.out hlen hB.out.size
          have hst2 : ix (Tree.wit (l.take k) b e) ++ [(i : Int)] = ix (Tree.wit (l.take (k + 1)) b e) := by rw [hst.out, if_pos ⟨c1, c2⟩]; simp [ix]
          rw [hst2] at hO3
          have O3 := hid hO3
          have B3 := hid (hB.out.trans hb3)
          clear hO3 hb3 hst hst2 hO hB
          go_wp2_with (at_builtin; go_must (refine Lib.wpList_append_run _ rfl _ _ 22 22 rfl _ _ rfl rfl _ _ hap ?_))
          exact ⟨⟨k + 1, by omega, by go_num, O3, B3⟩, by simp [intOf]; omega⟩
        · have d2 : ¬ (i : Int) < (e : Int) := by omega
          rw [if_neg (by omega), List.append_nil] at hst
          rw [← hst.out] at hO
          clear hst
          go_wp2
          exact ⟨⟨k + 1, by omega, by go_num, hO, hB⟩, by simp [intOf]; omega⟩
      · have d1 : ¬ (b : Int) ≤ (i : Int) := by omega
        rw [if_neg (by omega), List.append_nil] at hst
        rw [← hst.out] at hO
        clear hst
        go_wp2
        exact ⟨⟨k + 1, by omega, by go_num, hO, hB⟩, by simp [intOf]; omega⟩
    · obtain rfl : k = N := by omega
      have b0 : ¬ (k : Int) < (k : Int) := by omega
      rw [← hN.out, List.take_length] at hO
      go_wp2
      go_ret
      exact ⟨_, rfl, hO.out, hB.out⟩
theorem own_one12 (w : World) (x y : Nat) : OwnP (w.alloc (.cells #[.int .i64 (x : Int), .int .i64 (y : Int)] 62)) (.slice (some ⟨w.heap.size, 0, none⟩) 1 1) [(x, y)] := by
  have r := heap_alloc_new w (.cells #[.int .i64 (x : Int), .int .i64 (y : Int)] 62)
  refine .inr ⟨w.heap.size, 1, rfl, Nat.le_refl _, by rw [maxLen]; omega, rfl, fun j v hv => ?_, there_of_row r 0 2 (by simp), lt_of_heap r⟩
  rw [cell_of_row _ _ _ _ _ _ r, Nat.zero_add]
  simpa [prs] using hv
theorem othF_le : ∀ (f b m : Nat) (l : List Nat), 1 ≤ m → m ≤ 1099511627776 → (Tree.othF f b m l).length ≤ m
  | 0, b, m, l, _, _ => by simp [Tree.othF]
  | f + 1, b, m, l, h1, h2 => by
    rw [Tree.othF]
    split
    · simp; omega
    · split
      · simp
      · have s1 := Tree.sp_lt (n := m) (by omega)
        have s2 := Tree.sp_pos (n := m) (by omega)
        rw [List.length_append]
        have := othF_le f b (Tree.sp m) l (by omega) (by omega)
        have := othF_le f (b + Tree.sp m) (m - Tree.sp m) l (by omega) (by omega)
        omega
set_option maxRecDepth 100000 in
set_option maxHeartbeats 8000000 in
theorem rtold_any : ∀ (f b m : Nat) (l : List Nat) (a : Option Addr) (ca : Nat) (w : World), 1 ≤ m → m ≤ f → b + m ≤ 1099511627776 → l.length ≤ 256 → AtI w a (ix l) →
    Calls Tryz.prog 9 #[.slice a l.length ca, .int .i64 (b : Int), .int .i64 ((b + m : Nat) : Int)] w fun r w' => Below w.heap.size w w' ∧ ∃ v, r = .returned v ∧ OwnP w' v (Tree.othF f b m l) ∧ (∀ k, v.ownBlock = some k → w.heap.size ≤ k) := by
  intro f
  induction f with
  | zero => intro b m l a ca w h1 h2; omega
  | succ f ih =>
    intro b m l a ca w h1 h2 h3 hl hA
    have i1 := within12_any l b (b + m) hl a ca w hA
    cases ht : Tree.tch l b (b + m) with
    | false =>
      rw [Tree.wit_nil ht] at i1
      rw [Tree.othF_no ht]
      generalize b + m = e at *
      clear hA ih ht
      go_enter Tryz.func9, Tryz.ntmps9
      go_wp2_with (go_at_call 31; refine i1.mono ?_; rintro r w1 ⟨v1, rfl, o1, b1⟩; obtain ⟨a1, c1, hv1, _, _, _⟩ := Own.atI o1; subst hv1; have B1 := hid b1; clear o1 b1; simp only [show (ix []).length = 0 from rfl])
      go_ret
      exact ⟨B1.out.alloc B1.out.size _, _, rfl, own_one12 w1 b e, fun k hk => by cases hk; exact B1.out.size⟩
    | true =>
      have hwl : (Tree.wit l b (b + m)).length ≤ 256 := Nat.le_trans (List.length_filter_le _ _) hl
      have hwn := Tree.wit_ne ht
      by_cases hm : m < 2
      · obtain rfl : m = 1 := by omega
        rw [Tree.othF_one ht (by omega)]
        have hz : (((Tree.wit l b (b + 1)).length : Int) == 0) = false := by simpa using hwn
        have hix : (ix (Tree.wit l b (b + 1))).length = (Tree.wit l b (b + 1)).length := by simp [ix]
        have hsb : ((b + 1 : Nat) : Int) - (b : Int) = 1 := by omega
        have hsw : IntKind.i64.wrap (((b + 1 : Nat) : Int) - (b : Int)) = 1 := by rw [hsb, IntKind.wrap_i64]; omega
        generalize b + 1 = e at *
        generalize (Tree.wit l b e).length = q at *
        clear hA ih ht
        go_enter Tryz.func9, Tryz.ntmps9
        go_wp2_with (go_at_call 31; refine i1.mono ?_; rintro r w1 ⟨v1, rfl, o1, b1⟩; obtain ⟨a1, c1, hv1, _, _, _⟩ := Own.atI o1; subst hv1; rw [hix]; have B1 := hid b1; clear o1 b1)
        go_ret
        exact ⟨B1.out, _, rfl, OwnM.nil _ _, fun k hk => by cases hk⟩
      · have s1 := Tree.sp_lt (n := m) (by omega)
        have s2 := Tree.sp_pos (n := m) (by omega)
        have hz : (((Tree.wit l b (b + m)).length : Int) == 0) = false := by simpa using hwn
        have hix : (ix (Tree.wit l b (b + m))).length = (Tree.wit l b (b + m)).length := by simp [ix]
        have hsb : IntKind.i64.wrap (((b + m : Nat) : Int) - (b : Int)) = (m : Int) := by rw [IntKind.wrap_i64]; omega
        have hsb' : ((b + m : Nat) : Int) - (b : Int) = (m : Int) := by omega
        have hm1 : ((m : Int) == 1) = false := by simp; omega
        have iS := fun w' => rsplit_any (m : Int) (by omega) (by omega) w'
        rw [show spI (m : Int) = ((Tree.sp m : Nat) : Int) from rfl] at iS
        have e1 := oth_wit (l := l) (B := b) (E := b + m) f b (Tree.sp m) (Nat.le_refl _) (by omega)
        have e2 := oth_wit (l := l) (B := b) (E := b + m) f (b + Tree.sp m) (m - Tree.sp m) (by omega) (by omega)
        have c1 := fun (a' : Option Addr) (c' : Nat) w' (h : AtI w' a' (ix (Tree.wit l b (b + m)))) => ih b (Tree.sp m) (Tree.wit l b (b + m)) a' c' w' (by omega) (by omega) (by omega) hwl h
        have c2 := fun (a' : Option Addr) (c' : Nat) w' (h : AtI w' a' (ix (Tree.wit l b (b + m)))) => ih (b + Tree.sp m) (m - Tree.sp m) (Tree.wit l b (b + m)) a' c' w' (by omega) (by omega) (by omega) hwl h
        rw [show b + Tree.sp m + (m - Tree.sp m) = b + m by omega] at c2
        rw [e1] at c1
        rw [e2] at c2
        rw [Tree.othF_two ht (by omega)]
        have hl1 : (Tree.othF f b (Tree.sp m) l).length ≤ 1099511627776 := Nat.le_trans (othF_le f b (Tree.sp m) l (by omega) (by omega)) (by omega)
        have hl2 : (Tree.othF f (b + Tree.sp m) (m - Tree.sp m) l).length ≤ 1099511627776 := Nat.le_trans (othF_le f (b + Tree.sp m) (m - Tree.sp m) l (by omega) (by omega)) (by omega)
        have hkw : IntKind.i64.wrap ((b : Int) + ((Tree.sp m : Nat) : Int)) = ((b + Tree.sp m : Nat) : Int) := by rw [IntKind.wrap_i64]; omega
        generalize Tree.othF f b (Tree.sp m) l = X at *
        generalize Tree.othF f (b + Tree.sp m) (m - Tree.sp m) l = Y at *
        generalize hS : b + Tree.sp m = kk at *
        generalize Tree.sp m = sm at *
        obtain ⟨e, he⟩ : ∃ e, b + m = e := ⟨_, rfl⟩
        rw [he] at i1 c1 c2 hz hix hsb hsb' ⊢
        generalize Tree.wit l b e = I at *
        have hkk : (b : Int) + (sm : Int) = (kk : Int) := by omega
        clear hA ih ht e1 e2 he hS hwn
        go_enter Tryz.func9, Tryz.ntmps9
        go_wp2_with (go_at_call 31; refine i1.mono ?_; rintro r w1 ⟨v1, rfl, o1, b1⟩; obtain ⟨a1, ca1, hv1, hat1, _, _⟩ := Own.atI o1; subst hv1; rw [hix]; have B1 := hid b1; have A1 := hid hat1; clear o1 b1 hat1)
        go_wp2_with (first
          | (go_at_call 32; refine (iS _).mono ?_; rintro r w2 ⟨rfl, h0⟩; have h0 := h0.symm; subst h0)
          | (go_at_call 9; fail))
        with_reducible refine (c1 a1 ca1 w1 A1.out).mono ?_
        rintro r w3 ⟨b3, v3, rfl, o3, f3⟩
        have B3 := hid (B1.out.trans (b3.mono B1.out.size))
        have A3 := hid (A1.out.below b3 (Nat.le_refl _))
        have O3 := hid o3
        have F3 := hid f3
        have Z1 := hid B1.out.size
        clear A1 b3 o3 f3 B1
        go_wp2_with (go_at_call 9; fail)
        with_reducible refine (c2 a1 ca1 w3 A3.out).mono ?_
        rintro r w4 ⟨b4, v4, rfl, o4, f4⟩
        obtain ⟨v5, w5, hap, O5, G5⟩ := append_spl12 w4 v3 v4 X Y (O3.out.below b4) o4 hl1 hl2
        have B4 := B3.out.trans (b4.mono B3.out.size)
        have B5 : Hid (Below w.heap.size w w5) := B4.trans ⟨G5.os, G5.tape, G5.output, G5.size, fun k hk => G5.old k (Nat.lt_of_lt_of_le hk B4.size) (fun e => by have := F3.out k e; have := Z1.out; omega)⟩
        have HO5 := hid O5
        have F5 : Hid (∀ k, v5.ownBlock = some k → w.heap.size ≤ k) := fun k hk => by
          rcases G5.alt with h | ⟨h, _⟩
          · rw [h] at hk
            have := F3.out k hk
            have := Z1.out
            omega
          · have := h k hk
            have := B4.size
            omega
        clear b4 o4 f4 O5 G5 B4 O3 F3
        go_wp2_with (at_builtin; go_must (refine Lib.wpList_append_run _ rfl _ _ 30 30 rfl _ _ rfl rfl _ _ hap ?_))
        go_ret
        exact ⟨B5.out, _, rfl, HO5.out, F5.out⟩
end Bat
end Go.Proofs.YtbodgecbakcaaaaGreatDoor

namespace Go.Proofs.YtbodgecbakcaaaaGreatDoor
open Go.RowKit
abbrev rng (b e : Int) (v : Value) : Value := .agg #[.int .i64 b, .int .i64 e, v]
end Go.Proofs.YtbodgecbakcaaaaGreatDoor

namespace Go.Proofs.YtbodgecbakcaaaaGreatDoor
open Go.RowKit
theorem and1_i64 (E : Nat) (hE : E < 9223372036854775808) : bits .and .i64 (E : Int) 1 = ((E % 2 : Nat) : Int) := by
  have h1 : (BitVec.ofInt 64 (E : Int)).toNat = E := by
    rw [BitVec.ofInt_natCast, BitVec.toNat_ofNat]; exact Nat.mod_eq_of_lt (by omega)
  have h2 : (BitVec.ofInt 64 (1 : Int)).toNat = 1 := by decide
  show IntKind.i64.wrap ((BitVec.ofInt 64 (E : Int) &&& BitVec.ofInt 64 (1 : Int)).toNat : Int) = _
  rw [BitVec.toNat_and, h1, h2, Nat.and_one_is_mod]
  exact wrap_small _ (by omega) (by omega)
theorem bit_is {b k : Nat} (hb : b < 9223372036854775808) : bits .and .i64 ((b : Int) / 2 ^ k) 1 = ((b / 2 ^ k % 2 : Nat) : Int) := by
  have e : ((b : Int) / 2 ^ k) = ((b / 2 ^ k : Nat) : Int) := by simp
  rw [e]
  exact and1_i64 _ (Nat.lt_of_le_of_lt (Nat.div_le_self _ _) hb)
end Go.Proofs.YtbodgecbakcaaaaGreatDoor

namespace Go.Proofs.YtbodgecbakcaaaaGreatDoor
open Go.RowKit
structure Mov (F : Nat → Prop) (w w' : World) (F' : Nat → Prop) : Prop where
  keep : Keep F w w'
  new : ∀ k, F' k → F k ∨ w.heap.size ≤ k
end Go.Proofs.YtbodgecbakcaaaaGreatDoor

namespace Go.Proofs.YtbodgecbakcaaaaGreatDoor
open Go.RowKit
namespace Cut
open Tree
end Cut
theorem Mov.below {F F' : Nat → Prop} {w w' : World} {B : Nat} (h : Mov F w w' F') (hB : B ≤ w.heap.size) (hF : ∀ k, F k → B ≤ k) : Below B w w' ∧ ∀ k, F' k → B ≤ k := by
  refine ⟨⟨h.keep.os, h.keep.tape, h.keep.output, h.keep.size, fun k hk => h.keep.block k (by omega) fun e => ?_⟩, fun k hk => ?_⟩
  · have := hF k e; omega
  · rcases h.new k hk with e | e
    · exact hF k e
    · omega
end Go.Proofs.YtbodgecbakcaaaaGreatDoor

namespace Go.Proofs.YtbodgecbakcaaaaGreatDoor
open Go.RowKit
theorem Mp.keys {w : World} {b : Nat} {es : List ((Int × Int) × Value)} (h : Mp w b es) : es.Pairwise (fun x y => x.1 ≠ y.1) := by
  obtain ⟨_, _, _, _, _, _, h, _⟩ := h
  exact h
def Fb (q b : Nat) (es : List ((Int × Int) × Value)) (k : Nat) : Prop := k = q ∨ k = b ∨ ∃ p v, (p, v) ∈ es ∧ v.ownBlock = some k
structure Tr (w : World) (q b h s : Nat) (es : List ((Int × Int) × Value)) (R : Int × Int → List (List UInt8)) : Prop where
  row : w.heap[q]? = some (.cells #[.int .i64 (h : Int), .int .i64 (s : Int), .map (some b)] 91 (0, 0))
  mp : Mp w b es
  qb : q ≠ b
  el : ∀ p v, (p, v) ∈ es → Own w 0 v (svs (R p)) ∧ ∀ k, v.ownBlock = some k → k ≠ q ∧ k ≠ b
  no : ∀ p, ¬ has es p → R p = []
  apart : ∀ p v p' v' k, (p, v) ∈ es → (p', v') ∈ es → p ≠ p' → v.ownBlock = some k → v'.ownBlock ≠ some k
theorem Own.ltS {w : World} {base : Nat} {v : Value} {cs : List Value} (h : Own w base v cs) : ∀ k, v.ownBlock = some k → k < w.heap.size := by
  rcases h with ⟨rfl, _⟩ | ⟨g, cap, rfl, _, _, _, _, _, h6⟩
  · intro k hk; cases hk
  · intro k hk; cases hk; exact h6
theorem Tr.lt {w : World} {q b h s : Nat} {es : List ((Int × Int) × Value)} {R : Int × Int → List (List UInt8)} (t : Tr w q b h s es R) : ∀ k, Fb q b es k → k < w.heap.size := fun k hk => by
  rcases hk with rfl | rfl | ⟨p, v, hm, hk⟩
  · exact (Array.getElem?_eq_some_iff.1 t.row).1
  · exact t.mp.lt
  · exact (t.el p v hm).1.ltS k hk
theorem Tr.keep {w w' : World} {q b h s : Nat} {es : List ((Int × Int) × Value)} {R : Int × Int → List (List UInt8)} {S : Nat → Prop} (t : Tr w q b h s es R) (hk : Keep S w w') (hd : ∀ k, Fb q b es k → ¬ S k) : Tr w' q b h s es R := by
  have e : ∀ k, Fb q b es k → w'.heap[k]? = w.heap[k]? := fun k hf => hk.block k (t.lt k hf) (hd k hf)
  refine ⟨(e q (.inl rfl)).trans t.row, t.mp.heap (e b (.inr (.inl rfl))), t.qb, fun p v hm => ⟨?_, (t.el p v hm).2⟩, t.no, t.apart⟩
  exact (t.el p v hm).1.kept hk.size fun g hg => e g (.inr (.inr ⟨p, v, hm, hg⟩))
theorem Tr.below {w w' : World} {q b h s : Nat} {es : List ((Int × Int) × Value)} {R : Int × Int → List (List UInt8)} (t : Tr w q b h s es R) (hb : Below w.heap.size w w') : Tr w' q b h s es R :=
  t.keep (S := fun k => w.heap.size ≤ k) ⟨hb.os, hb.tape, hb.output, hb.size, fun k hk _ => hb.block k hk⟩ (fun k hk e => by have := t.lt k hk; omega)
theorem Tr.c0 {w : World} {q b h s : Nat} {es : List ((Int × Int) × Value)} {R : Int × Int → List (List UInt8)} (t : Tr w q b h s es R) : w.cell? ⟨q, 0, none⟩ = some (.int .i64 (h : Int)) := by rw [cell_of_row _ _ _ _ _ _ t.row]; rfl
theorem Tr.c1 {w : World} {q b h s : Nat} {es : List ((Int × Int) × Value)} {R : Int × Int → List (List UInt8)} (t : Tr w q b h s es R) : w.cell? ⟨q, 1, none⟩ = some (.int .i64 (s : Int)) := by rw [cell_of_row _ _ _ _ _ _ t.row]; rfl
theorem Tr.c2 {w : World} {q b h s : Nat} {es : List ((Int × Int) × Value)} {R : Int × Int → List (List UInt8)} (t : Tr w q b h s es R) : w.cell? ⟨q, 2, none⟩ = some (.map (some b)) := by rw [cell_of_row _ _ _ _ _ _ t.row]; rfl
theorem Tr.f1 {w : World} {q b h s : Nat} {es : List ((Int × Int) × Value)} {R : Int × Int → List (List UInt8)} (t : Tr w q b h s es R) : w.frozen? ⟨q, 1, none⟩ = false := frozen_of_row _ _ _ _ _ t.row
theorem Tr.at {w : World} {q b h s : Nat} {es : List ((Int × Int) × Value)} {R : Int × Int → List (List UInt8)} (t : Tr w q b h s es R) (p : Int × Int) : Own w 0 (look es p) (svs (R p)) ∧ ∀ k, (look es p).ownBlock = some k → Fb q b es k ∧ k ≠ q ∧ k ≠ b := by
  by_cases hp : has es p
  · obtain ⟨v, hv⟩ := hp
    rw [look_mem t.mp.keys hv]
    exact ⟨(t.el p v hv).1, fun k hk => ⟨.inr (.inr ⟨p, v, hv, hk⟩), (t.el p v hv).2 k hk⟩⟩
  · rw [look_none hp, t.no p hp]
    exact ⟨Own.nil _ _, fun k hk => (by cases hk)⟩
theorem tOrNone_any (q : Nat) (w : World) : Calls Tryz.prog 50 #[.pointer (some ⟨q, 0, none⟩)] w fun r w' => r = .returned (.pointer (some ⟨q, 0, none⟩)) ∧ w' = w := by
  go_enter Tryz.func50, Tryz.ntmps50
  go_wp2
  go_ret
  exact ⟨rfl, rfl⟩
theorem tSize_any {w : World} {q b h s : Nat} {es : List ((Int × Int) × Value)} {R : Int × Int → List (List UInt8)} (t : Tr w q b h s es R) : Calls Tryz.prog 35 #[.pointer (some ⟨q, 0, none⟩)] w fun r w' => r = .returned (.int .i64 (s : Int)) ∧ w' = w := by
  have h0 := t.c1
  go_enter Tryz.func35, Tryz.ntmps35
  go_wp2_with (go_at_call 50; refine (tOrNone_any q w).mono ?_; rintro e w' ⟨rfl, rfl⟩)
  go_ret
  exact ⟨rfl, rfl⟩
theorem tHeight_any {w : World} {q b h s : Nat} {es : List ((Int × Int) × Value)} {R : Int × Int → List (List UInt8)} (t : Tr w q b h s es R) : Calls Tryz.prog 48 #[.pointer (some ⟨q, 0, none⟩)] w fun r w' => r = .returned (.int .i64 (h : Int)) ∧ w' = w := by
  have h0 := t.c0
  go_enter Tryz.func48, Tryz.ntmps48
  go_wp2_with (go_at_call 50; refine (tOrNone_any q w).mono ?_; rintro e w' ⟨rfl, rfl⟩)
  go_ret
  exact ⟨rfl, rfl⟩
end Go.Proofs.YtbodgecbakcaaaaGreatDoor

namespace Go.Proofs.YtbodgecbakcaaaaGreatDoor
open Go.RowKit
theorem results_row_tmp {P : Program} {fn : Func} {p u : Tmp} {ty : TypeId} (h : fn.results = #[.cell p ty, .tmp u]) (tmps : Array Value) (w : World) (g : Nat) (t : TypeId) (cs : Array Value) (fr : Nat × Nat) (d : TypeDesc)
    (hp : tmps.getD p undef = .pointer (some ⟨g, 0, none⟩)) (hg : w.heap[g]? = some (.cells cs t fr))
    (hu : P.underlying ty = some d) (hd : (match d with | .struct _ | .array _ _ => true | _ => false) = true) (hi : (P.info? ty).map (·.size) = some cs.size) :
    (results fn tmps).run P w = .ok (.tuple #[.agg cs, tmps.getD u undef]) w := by
  rw [results_cell_tmp h, hp]
  simp [asAddr, run_loadVar_row w g t ty cs fr d hg hu hd hi, Result.andThen]
abbrev rng0 : Value := .agg #[.int .i64 0, .int .i64 0, .slice none 0 0]
end Go.Proofs.YtbodgecbakcaaaaGreatDoor
