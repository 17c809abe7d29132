import Derived.Test.YticjokhfjkebpaaGreatDoorPkO25
import Derived.Test.YticjokhfjkebpaaGreatDoorPkSH3
import Derived.Test.YticjokhfjkebpaaGreatDoorPkTL15
import Derived.Test.YticjokhfjkebpaaGreatDoorPkO15
import Derived.Test.YticjokhfjkebpaaGreatDoorPkO7
import Derived.Test.YticjokhfjkebpaaGreatDoorPkPP5
import Derived.Deep.CutRange
import Derived.Test.YticjokhfjkebpaaGreatDoorPkFN1
import Derived.Lib.SmallJoins
namespace Go.Proofs.YticjokhfjkebpaaGreatDoor.Tree
/-- which are wanted, of k from b on -/
def wi (wt : List Bool) (b k : Nat) : List Nat := (List.range' b k).filter (fun j => wt.getD j false)
theorem wi_zero (wt : List Bool) (b : Nat) : wi wt b 0 = [] := rfl
theorem wi_add (wt : List Bool) (b k j : Nat) : wi wt b (k + j) = wi wt b k ++ wi wt (b + k) j := by
  rw [wi, wi, wi, ← List.filter_append, ← List.range'_append_1]
theorem wi_succ (wt : List Bool) (b k : Nat) : wi wt b (k + 1) = wi wt b k ++ (if wt.getD (b + k) false then [b + k] else []) := by
  rw [wi_add, wi, wi]
  congr 1
  rw [show List.range' (b + k) 1 = [b + k] from rfl]
  by_cases h : wt.getD (b + k) false = true
  · rw [if_pos h]; simp only [List.filter, h]
  · rw [if_neg h]; simp only [List.filter, h]
theorem wi_mem {wt : List Bool} {b k i : Nat} (h : i ∈ wi wt b k) : b ≤ i ∧ i < b + k := by
  have := (List.mem_filter.1 h).1
  rw [List.mem_range'_1] at this
  exact this
theorem wi_left (wt : List Bool) (b k j : Nat) : (wi wt b (k + j)).filter (· < b + k) = wi wt b k := by
  rw [wi_add, List.filter_append, List.filter_eq_self.2 (fun x hx => by have := wi_mem hx; simp; omega), List.filter_eq_nil_iff.2 (fun x hx => by have := wi_mem hx; simp; omega), List.append_nil]
theorem wi_right (wt : List Bool) (b k j : Nat) : (wi wt b (k + j)).filter (b + k ≤ ·) = wi wt (b + k) j := by
  rw [wi_add, List.filter_append, List.filter_eq_nil_iff.2 (fun x hx => by have := wi_mem hx; simp; omega), List.filter_eq_self.2 (fun x hx => by have := wi_mem hx; simp; omega), List.nil_append]
theorem wi_sorted (wt : List Bool) (b k : Nat) : (wi wt b k).Pairwise (· < ·) := List.Pairwise.filter _ List.pairwise_lt_range'
theorem wi_length (wt : List Bool) (b k : Nat) : (wi wt b k).length ≤ k := by
  have := List.length_filter_le (fun j => wt.getD j false) (List.range' b k)
  rw [List.length_range'] at this
  exact this
/-- a proof of many has at most n less as many -/
theorem wi_many : ∀ (f : Nat) (wt : List Bool) (b : Nat) (l : List T), l.length ≤ f → 1 ≤ l.length → (many (wi wt b l.length) b l).length + (wi wt b l.length).length ≤ l.length
  | 0, wt, b, l, h, h1 => by omega
  | f + 1, wt, b, l, h, h1 => by
    by_cases hi : wi wt b l.length = []
    · rw [hi, many_none h1]; simpa using h1
    · by_cases h2 : l.length = 1
      · have := wi_length wt b l.length
        rw [many_one hi h2]; simpa using this
      · have x := sp_lt (n := l.length) (by omega)
        have y := sp_pos (n := l.length) (by omega)
        have e : l.length = sp l.length + (l.length - sp l.length) := by omega
        have l1 : (l.take (sp l.length)).length = sp l.length := by simp; omega
        have l2 : (l.drop (sp l.length)).length = l.length - sp l.length := by simp
        have ih1 := wi_many f wt b (l.take (sp l.length)) (by omega) (by omega)
        have ih2 := wi_many f wt (b + sp l.length) (l.drop (sp l.length)) (by omega) (by omega)
        rw [l1] at ih1
        rw [l2] at ih2
        have hw : (wi wt b l.length).length = (wi wt b (sp l.length)).length + (wi wt (b + sp l.length) (l.length - sp l.length)).length := by
          conv => lhs; rw [e]
          rw [wi_add, List.length_append]
        have hl := wi_left wt b (sp l.length) (l.length - sp l.length)
        have hr := wi_right wt b (sp l.length) (l.length - sp l.length)
        rw [← e] at hl hr
        rw [many_cut hi (by omega), hl, hr, List.length_append]
        omega
end Go.Proofs.YticjokhfjkebpaaGreatDoor.Tree
namespace Go.Proofs.YticjokhfjkebpaaGreatDoor
open Go.RowKit
theorem At.split {w : World} {x : Addr} {l r : List (List UInt8)} (h : At w (some x) (l ++ r)) : At w (some (x.add l.length)) r := by
  have := h.drop l.length
  rwa [List.drop_left] at this
/-- what is told: a root, and what is left of the proof -/
def OutT (w : World) (r : List UInt8) (R : List (List UInt8)) (e : Ending) (w' : World) : Prop :=
  ∃ a' c', e = .returned (.tuple #[sv r, .slice a' R.length c', .bool true]) ∧ At w' a' R ∧ R.length ≤ c' ∧ c' ≤ 9223372036854775807 ∧ Below w.heap.size w w'
end Go.Proofs.YticjokhfjkebpaaGreatDoor

namespace Go.Proofs.YticjokhfjkebpaaGreatDoor
open Go.RowKit
theorem infoBl : (Tryz.prog.info? 3).map (fun i => (i.zero, i.size, i.bytes)) = some (some (.int .i64 0), 1, 8) := by kernel_rfl
def ivs (L : List Int) : List Value := L.map (.int .i64)
theorem ivs_length (L : List Int) : (ivs L).length = L.length := by simp [ivs]
/-- append(l, i) -/
theorem append_int (w : World) (base : Nat) (v : Value) (L : List Int) (p : Int) (hown : Own w base v (ivs L)) (hlen : L.length ≤ 2000000) (hbase : base ≤ w.heap.size) :
    ∃ v' w', (Builtin.append_ #[22, 22] 22 #[v, .slice (some ⟨w.heap.size, 0, none⟩) 1 1]).run Tryz.prog (w.alloc (.cells #[.int .i64 p] 3)) = .ok v' w' ∧ Own w' base v' (ivs (L ++ [p])) ∧ Below base w w' := by
  obtain ⟨i0, hi, hz0, hz1, hz2⟩ := info_parts infoBl
  have hsrc : Src Tryz.prog 1 22 (.slice (some ⟨w.heap.size, 0, none⟩) 1 1) 1 [.int .i64 p] (w.alloc (.cells #[.int .i64 p] 3)) :=
    Src.ofSlice _ Tryz.underlying22 ⟨w.heap.size, 0, none⟩ 1 1 [.int .i64 p] (by simp) (fun j u hj => by
      rw [Addr.add_mid, cell_of_row _ _ _ _ _ _ (heap_alloc_new w _), Nat.zero_add]; simpa using hj) (fun u hu => by simp at hu; subst hu; rfl)
  obtain ⟨v', w', h1, h2, h3, h4⟩ := run_append_O (P := Tryz.prog) (w.alloc (.cells #[.int .i64 p] 3)) base 22 22 22 3 i0 (.int .i64 0) Tryz.underlying22 hi hz0 hz1 rfl v (ivs L) (hown.alloc _) _ 1 [.int .i64 p] hsrc
    (by rw [ivs_length, hz2]; omega) (by rw [ivs_length, maxLen]; omega) (by rw [size_alloc]; omega) (fun _ => by omega)
  refine ⟨v', w', h1, by simpa [ivs] using h2, ?_⟩
  exact ((Below.refl base w).alloc hbase _).trans (Below.ofGrown h3 hown.ge (by rw [size_alloc]; omega))
theorem Own.atI {w : World} {base : Nat} {v : Value} {L : List Int} (h : Own w base v (ivs L)) : ∃ a cap, v = .slice a L.length cap ∧ AtI w a L ∧ L.length ≤ cap ∧ cap ≤ 9223372036854775807 := by
  rcases h with ⟨rfl, h⟩ | ⟨g, cap, rfl, h1, h2, h3, h4, h5, h6⟩
  · obtain rfl : L = [] := by simpa [ivs] using h
    exact ⟨none, 0, rfl, AtI.nil _ _, by simp, by omega⟩
  · rw [ivs_length] at h2
    refine ⟨some ⟨g, 0, none⟩, cap, by rw [ivs_length], fun j p hp => ⟨_, rfl, h6, ?_⟩, h2, h3⟩
    rw [Addr.add_mid]
    exact h4 j (.int .i64 p) (by simp [ivs, hp])
/-- a row of yes and no -/
def RowB (w : World) (H : Nat) (L : List Bool) : Prop := w.heap[H]? = some (.cells (bls L).toArray 4 (0, 0))
theorem RowB.lt {w : World} {H : Nat} {L : List Bool} (h : RowB w H L) : H < w.heap.size := lt_of_heap h
theorem RowB.cell {w : World} {H : Nat} {L : List Bool} (h : RowB w H L) {j : Nat} {p : Bool} (hp : L[j]? = some p) : w.cell? ⟨H, j, none⟩ = some (.bool p) := by
  rw [cell_of_row _ _ _ _ _ _ h]; simp [bls, hp]
theorem RowB.at {w : World} {H : Nat} {L : List Bool} (h : RowB w H L) : AtB w (some ⟨H, 0, none⟩) L := fun j p hp => ⟨_, rfl, h.lt, by rw [Addr.add_mid, Nat.zero_add]; exact h.cell hp⟩
theorem RowB.free {w : World} {H : Nat} {L : List Bool} (h : RowB w H L) {j : Nat} (hj : j < L.length) : w.frozen? ⟨H, j, none⟩ = false := by
  have := (there_of_row h 0 L.length (by simp [bls])) j hj
  rw [Nat.zero_add] at this
  exact this.2
theorem RowB.below {w w' : World} {H B : Nat} {L : List Bool} (h : RowB w H L) (hb : Below B w w') (hB : H < B) : RowB w' H L := by
  unfold RowB; rw [hb.block H hB]; exact h
theorem RowB.set {w : World} {H : Nat} {L : List Bool} (h : RowB w H L) (k : Nat) (x : Bool) : RowB (w.setCell ⟨H, k, none⟩ (.bool x)) H (L.set k x) := by
  have e := setCell_eq_setRow w H k (bls L).toArray 4 (0, 0) (.bool x) h
  unfold RowB
  rw [e, setRow_heap _ _ _ _ _ _ h]
  refine congrArg (fun A => some (Obj.cells A 4 (0, 0))) ?_
  simp [bls, List.map_set]
/-- make([]bool, c) -/
theorem make_bools3 (w : World) (c : Nat) (hc : c ≤ 20000000) :
    (Instr.makeSlice 180 (.int .i64 (c : Int)) (.int .i64 (c : Int))).run Tryz.prog w = .ok (.slice (some ⟨w.heap.size, 0, none⟩) c c) (w.alloc (.cells (bls (List.replicate c false)).toArray 4)) := by
  obtain ⟨i0, hi, hz0, hz1, hz2⟩ := info_parts infoB
  have h := run_make (P := Tryz.prog) w 180 4 i0 (.bool false) Tryz.underlying180 hi hz0 .i64 .i64 (c : Int) (c : Int) (by omega) (by omega) (by rw [hz2]; omega) (by omega)
  rw [Int.toNat_natCast, hz1, Nat.mul_one] at h
  have e : madeCells (Value.bool false).cells c = (bls (List.replicate c false)).toArray := by
    apply Array.ext'
    rw [show (madeCells (Value.bool false).cells c).toList = List.replicate c (.bool false) from toList_madeCells_one _ _]
    simp [bls]
  rw [e] at h
  exact h
/-- the wanted, as indices -/
theorem wi_ok (wt : List Bool) (n : Nat) (h : wt.length = n) (h2 : n ≤ 200) (hne : Tree.wi wt 0 n ≠ []) : OkI n (ix (Tree.wi wt 0 n)) := by
  have hs := Tree.wi_sorted wt 0 n
  refine ⟨by rw [ix_len]; exact List.length_pos_iff.2 hne, by rw [ix_len]; have := Tree.wi_length wt 0 n; omega, fun j x hx => ?_, fun j x y hx hy => ?_⟩
  · simp only [ix, List.getElem?_map, Option.map_eq_some_iff] at hx
    obtain ⟨i, hi, rfl⟩ := hx
    have := Tree.wi_mem (List.mem_of_getElem? hi)
    omega
  · simp only [ix, List.getElem?_map, Option.map_eq_some_iff] at hx hy
    obtain ⟨i, hi, rfl⟩ := hx
    obtain ⟨k, hk, rfl⟩ := hy
    have h1 := (List.getElem?_eq_some_iff.1 hi)
    have h2 := (List.getElem?_eq_some_iff.1 hk)
    obtain ⟨a1, rfl⟩ := h1
    obtain ⟨a2, rfl⟩ := h2
    have := List.pairwise_iff_getElem.1 hs j (j + 1) a1 a2 (by omega)
    omega
theorem toN_ix (is : List Nat) : toN (ix is) = is := by
  have e : (Int.toNat ∘ fun (i : Nat) => (i : Int)) = id := by funext i; simp
  rw [toN, ix, List.map_map, e, List.map_id]
end Go.Proofs.YticjokhfjkebpaaGreatDoor

/- indices that rise, out of raw numbers: plain mathematics -/
namespace Go.Proofs.YticjokhfjkebpaaGreatDoor
namespace Bat
/-- a number is put into a list that rises, from here on -/
def goI (c : Int) : List Int → Bool → List Int
  | [], q => if q = true then [] else [c]
  | x :: l, q => if (q || decide (x = c)) = false ∧ c < x then c :: x :: goI c l true else x :: goI c l (q || decide (x = c))
theorem goI_true (c : Int) : ∀ l : List Int, goI c l true = l
  | [] => by simp [goI]
  | x :: l => by rw [goI, if_neg (by simp), Bool.true_or, goI_true c l]
theorem goI_mem (c : Int) : ∀ (l : List Int) (y : Int), y ∈ goI c l false → y = c ∨ y ∈ l
  | [], y, h => by simp [goI] at h; exact .inl h
  | x :: l, y, h => by
    rw [goI] at h
    split at h
    · rcases List.mem_cons.1 h with h | h
      · exact .inl h
      · rw [goI_true] at h; exact .inr h
    · rcases List.mem_cons.1 h with h | h
      · exact .inr (by rw [h]; exact List.mem_cons_self)
      · by_cases e : x = c
        · rw [e] at h
          simp only [decide_true, Bool.or_true, goI_true] at h
          exact .inr (List.mem_cons_of_mem _ h)
        · simp only [e, decide_false, Bool.or_false] at h
          rcases goI_mem c l y h with h | h
          · exact .inl h
          · exact .inr (List.mem_cons_of_mem _ h)
theorem goI_has (c : Int) : ∀ (l : List Int), goI c l false ≠ []
  | [] => by simp [goI]
  | x :: l => by rw [goI]; split <;> simp
theorem goI_len (c : Int) : ∀ (l : List Int), (goI c l false).length ≤ l.length + 1
  | [] => by simp [goI]
  | x :: l => by
    rw [goI]
    split
    · rw [goI_true]; simp
    · by_cases e : x = c
      · simp [e, goI_true]
      · simp only [e, decide_false, Bool.or_false, List.length_cons]
        have := goI_len c l
        omega
theorem goI_up (c : Int) : ∀ (l : List Int), l.Pairwise (· < ·) → (goI c l false).Pairwise (· < ·)
  | [], _ => by simp [goI]
  | x :: l, h => by
    obtain ⟨h1, h2⟩ := List.pairwise_cons.1 h
    rw [goI]
    by_cases e : x = c
    · rw [if_neg (by simp [e])]
      simp only [e, decide_true, Bool.or_true, goI_true]
      rw [e] at h
      exact h
    · simp only [e, decide_false, Bool.or_false]
      by_cases q : c < x
      · rw [if_pos ⟨by simp, q⟩, goI_true]
        refine List.pairwise_cons.2 ⟨fun y hy => ?_, h⟩
        rcases List.mem_cons.1 hy with rfl | hy
        · exact q
        · exact Int.lt_trans q (h1 y hy)
      · rw [if_neg (by simp [q])]
        refine List.pairwise_cons.2 ⟨fun y hy => ?_, goI_up c l h2⟩
        rcases goI_mem c l y hy with rfl | hy
        · omega
        · exact h1 y hy
/-- indices that rise, of the first k raw numbers, each made by p -/
def rgs (p : Int → Int) (raw : List Int) : Nat → List Int
  | 0 => []
  | k + 1 => match raw[k]? with
    | none => rgs p raw k
    | some c => goI (p c) (rgs p raw k) false
theorem rgs_succ {p : Int → Int} {raw : List Int} {k : Nat} (h : k < raw.length) : rgs p raw (k + 1) = goI (p raw[k]) (rgs p raw k) false := by
  rw [rgs, List.getElem?_eq_getElem h]
theorem rgs_up (p : Int → Int) (raw : List Int) : ∀ k, (rgs p raw k).Pairwise (· < ·)
  | 0 => List.Pairwise.nil
  | k + 1 => by
    rw [rgs]
    cases raw[k]? with
    | none => exact rgs_up p raw k
    | some c => exact goI_up _ _ (rgs_up p raw k)
theorem rgs_len (p : Int → Int) (raw : List Int) : ∀ k, (rgs p raw k).length ≤ k
  | 0 => Nat.le_refl _
  | k + 1 => by
    rw [rgs]
    have := rgs_len p raw k
    cases raw[k]? with
    | none => show (rgs p raw k).length ≤ k + 1; omega
    | some c => have := goI_len (p c) (rgs p raw k); show (goI (p c) (rgs p raw k) false).length ≤ k + 1; omega
theorem rgs_in {p : Int → Int} {raw : List Int} {q : Int → Prop} (hq : ∀ c, q (p c)) : ∀ k, ∀ x ∈ rgs p raw k, q x
  | 0, x, h => by cases h
  | k + 1, x, h => by
    rw [rgs] at h
    cases e : raw[k]? with
    | none => rw [e] at h; exact rgs_in hq k x h
    | some c =>
      rw [e] at h
      rcases goI_mem _ _ _ h with h | h
      · rw [h]; exact hq c
      · exact rgs_in hq k x h
theorem rgs_ne {p : Int → Int} {raw : List Int} {k : Nat} (hk : 0 < k) (hr : raw ≠ []) : rgs p raw k ≠ [] := by
  induction k with
  | zero => omega
  | succ k ih =>
    rw [rgs]
    cases e : raw[k]? with
    | some c => exact goI_has _ _
    | none =>
      by_cases h0 : k = 0
      · subst h0
        cases raw with
        | nil => exact absurd rfl hr
        | cons a l => simp at e
      · exact ih (by omega)
theorem rgs_end {p : Int → Int} {raw : List Int} {k : Nat} (hk : raw.length ≤ k) : ∀ m, rgs p raw (k + m) = rgs p raw k
  | 0 => rfl
  | m + 1 => by
    rw [← Nat.add_assoc, rgs, List.getElem?_eq_none (by omega)]
    exact rgs_end hk m
theorem rgs_nil {p : Int → Int} : ∀ k, rgs p [] k = []
  | 0 => rfl
  | k + 1 => by rw [rgs]; exact rgs_nil k
end Bat
end Go.Proofs.YticjokhfjkebpaaGreatDoor

namespace Go.Proofs.YticjokhfjkebpaaGreatDoor
open Go.RowKit Go.Shelf
namespace Bat
set_option maxRecDepth 100000 in
set_option maxHeartbeats 4000000 in
/-- a tree of these leaves -/
theorem planted12_any (ht : Int) (L : List (List UInt8)) (hL : Tree.Hs L) (hl : L.length ≤ 1000) (a : Option Addr) (ca : Nat) (w : World) (h1 : -9223372036854775808 ≤ ht) (h2 : ht ≤ 9223372036854775807) (hA : At w a L) (Z : Tb w) :
    Calls Tryz.prog 10 #[.slice a L.length ca, .int .i64 ht] w fun e w' => ∃ (q h : Nat) (F : Nat → Prop), e = .returned (.pointer (some ⟨q, 0, none⟩)) ∧ TrL w' q h L F ∧ (∀ k, F k → w.heap.size ≤ k) ∧ Below w.heap.size w w' := by
  have HZ := hid Z
  have HA := hid hA
  have HL := hid hL
  have hT := Z.lt
  clear Z hA hL
  have p0 := pk_nonneg ht 8 (by omega)
  have p1 := pk_lt ht 8 (by omega)
  have i1 := pick_any ht 8 h1 h2 (by omega) (by omega) w
  obtain ⟨h, hh⟩ : ∃ h : Nat, (h : Int) = 1 + pk ht 8 := ⟨(1 + pk ht 8).toNat, by omega⟩
  have s1 : IntKind.i64.wrap (1 + pk ht 8) = (h : Int) := by rw [wrap_small _ (by omega) (by omega)]; omega
  have new := tNew_any h (by omega) (by omega) w hT
  have HH := hid hh
  generalize pk ht 8 = p at *
  obtain ⟨n, hn⟩ : ∃ n : Nat, Hid (L.length = n) := ⟨_, rfl⟩
  rw [hn.out] at hl ⊢
  clear hh p0 p1
  go_enter Tryz.func10, Tryz.ntmps10
  go_wp2_with (go_at_call 11; refine i1.mono ?_; rintro e w0 ⟨rfl, h0⟩; have h0 := h0.symm; subst h0)
  go_wp2_with (go_at_call 38; fail)
  refine new.mono ?_
  rintro e w1 ⟨q, F1, rfl, E1, hF1, B1⟩
  have E1 := hid E1
  have B1 := hid B1
  have hF1 := hid hF1
  clear new i1 s1
  go_wp2
  go_loopw [7, 8] (fun i _ w' => ∃ (k : Nat) (F : Nat → Prop), k ≤ n ∧ i = .int .i64 (k : Int) ∧ Hid (TrL w' q h (L.take k) F) ∧ Hid (∀ k, F k → w.heap.size ≤ k) ∧ Hid (Below w.heap.size w w')) (fun i _ _ => n - (intOf i).toNat)
  case atStart => exact ⟨0, F1, by omega, rfl, E1, hF1, B1⟩
  case round =>
    clear E1 B1 hF1
    obtain ⟨k, F, hk, rfl, hE, hF, hB⟩ := hrel
    by_cases hkn : k < n
    · have b0 : (k : Int) < (n : Int) := by omega
      have hkc : k < L.length := by rw [hn.out]; exact hkn
      obtain ⟨y, rfl, _, hy⟩ := (HA.out.below hB.out (Nat.le_refl _)) k L[k] (List.getElem?_eq_getElem hkc)
      have hnx := hid (show L.take (k + 1) = L.take k ++ [L[k]] by rw [List.take_add_one, List.getElem?_eq_getElem hkc]; rfl)
      have hlk : (L.take k).length = k := by rw [List.length_take]; omega
      have lr : L[k].length = 32 := HL.out _ (List.getElem_mem hkc)
      generalize L[k] = r at *
      have add := tAdd_any hE.out r lr (by rw [hlk]; omega) (HZ.out.below hB.out hT)
      rw [← hnx.out] at add
      rw [show sv r = Value.string ⟨r.toArray⟩ from rfl] at hy
      have HB := hB
      clear hB hE hnx hlk
      go_wp2_with (go_at_call 39; fail)
      refine add.mono ?_
      rintro e w3 ⟨rfl, F3, E3, M3⟩
      obtain ⟨b3, f3⟩ := M3.below (B := w.heap.size) HB.out.size hF.out
      have B3 := hid (HB.out.trans b3)
      have E3 := hid E3
      have f3 := hid f3
      clear b3 M3 add
      go_wp2
      exact ⟨⟨k + 1, F3, by omega, by go_num, E3, f3, B3⟩, by simp [intOf]; omega⟩
    · obtain rfl : k = n := by omega
      have b0 : ¬ (k : Int) < (k : Int) := by omega
      go_wp2
      go_ret
      have := hE.out
      rw [← hn.out, List.take_length] at this
      exact ⟨q, rfl, h, F, this, hF.out, hB.out⟩
end Bat
end Go.Proofs.YticjokhfjkebpaaGreatDoor

/- Layer 14, the law: known -/
namespace Go.Proofs.YticjokhfjkebpaaGreatDoor
open Go.RowKit Go.Shelf
namespace Spn
theorem at_two14 (w : World) (x z : List UInt8) : At (w.alloc (.cells #[.string ⟨x.toArray⟩, .string ⟨z.toArray⟩] 9)) (some ⟨w.heap.size, 0, none⟩) [x, z] := fun j p hp => by
  have h := heap_alloc_new w (.cells #[.string ⟨x.toArray⟩, .string ⟨z.toArray⟩] 9)
  refine ⟨_, rfl, lt_of_heap h, ?_⟩
  rw [Addr.add_mid, Nat.zero_add, cell_of_row _ _ _ _ _ _ h]
  match j, hp with
  | 0, hp => simp at hp; subst hp; rfl
  | 1, hp => simp at hp; subst hp; rfl
  | j + 2, hp => simp at hp
theorem at_one14 (w : World) (x : List UInt8) : At (w.alloc (.cells #[.string ⟨x.toArray⟩] 9)) (some ⟨w.heap.size, 0, none⟩) [x] := fun j p hp => by
  have h := heap_alloc_new w (.cells #[.string ⟨x.toArray⟩] 9)
  refine ⟨_, rfl, lt_of_heap h, ?_⟩
  rw [Addr.add_mid, Nat.zero_add, cell_of_row _ _ _ _ _ _ h]
  match j, hp with
  | 0, hp => simp at hp; subst hp; rfl
  | j + 1, hp => simp at hp
theorem run212 : Tree.runF 2 0 2 1 2 = [(0, 1)] := by decide
theorem tol212 (x y : List UInt8) : tolS [x, y] 2 1 2 = [x] := by unfold tolS; rw [run212]; rfl
set_option maxRecDepth 100000 in
set_option maxHeartbeats 4000000 in
theorem known14_any (w : World) (Z : Tb w) : Calls Tryz.prog 8 #[] w fun e w' => e = .returned (.bool true) ∧ Below w.heap.size w w' := by
  have i1 := fun w' => lleaf_at 1 (lf 1) rfl w'
  have i2 := fun w' => lleaf_at 2 (lf 2) rfl w'
  have hx := lf_length 1
  have hy := lf_length 2
  generalize lf 1 = x at *
  generalize lf 2 = y at *
  have HZ := hid Z
  have hT := Z.lt
  have H32 : Hid (x.length = 32 ∧ y.length = 32) := ⟨hx, hy⟩
  simp only [show sv x = .string ⟨x.toArray⟩ from rfl] at i1
  simp only [show sv y = .string ⟨y.toArray⟩ from rfl] at i2
  clear Z hx hy
  go_enter Tryz.func8, Tryz.ntmps8
  go_wp2_with (first
    | (go_at_call 19; (first
      | ((with_reducible refine (i1 _).mono ?_); rintro r w1 ⟨rfl, b1⟩)
      | ((with_reducible refine (i2 _).mono ?_); rintro r w2 ⟨rfl, b2⟩)))
    | (go_at_call 10; fail))
  have B2 : Hid (Below w.heap.size w w2) := b1.trans (b2.mono b1.size)
  have ba := (Below.refl w2.heap.size w2).alloc (Nat.le_refl _) (.cells #[.string ⟨x.toArray⟩, .string ⟨y.toArray⟩] 9)
  have B2' := hid (B2.out.trans (ba.mono B2.out.size))
  have hHs : Hid (Tree.Hs [x, y]) := fun q hq => by
    have := H32.out
    simp only [List.mem_cons, List.not_mem_nil, or_false] at hq
    rcases hq with rfl | rfl
    · exact this.1
    · exact this.2
  have j4 := Bat.planted12_any 0 [x, y] hHs.out (by simp) (some ⟨w2.heap.size, 0, none⟩) 2 _ (by omega) (by omega) (at_two14 w2 x y) (HZ.out.below B2'.out hT)
  rw [show ([x, y] : List (List UInt8)).length = 2 from rfl] at j4
  with_reducible refine j4.mono ?_
  rintro r w4 ⟨q, h, F, rfl, t4, _, b4⟩
  have B4 := hid (B2'.out.trans (b4.mono B2'.out.size))
  have T4 := hid t4
  clear j4 ba B2' B2 b1 b2 b4 t4
  have j5 := prove14_ok T4.out (HZ.out.below B4.out hT) 2 1 2 (by omega) (by omega) (by simp)
  rw [tol212] at j5
  simp only [show ((2 : Nat) : Int) = 2 from rfl, show ((1 : Nat) : Int) = 1 from rfl] at j5
  go_wp2_with (go_at_call 12; fail)
  with_reducible refine j5.mono ?_
  rintro r w5 ⟨gh, rfl, r5, _, b5⟩
  have B5 := hid (B4.out.trans (b5.mono B4.out.size))
  have T5 := hid (T4.out.below b5)
  have R5 := hid r5
  clear j5 r5 b5 T4 B4
  rw [show ([x] : List (List UInt8)).length = 1 from rfl]
  simp only [show ((2 : Nat) : Int) = 2 from rfl, show ((1 : Nat) : Int) = 1 from rfl]
  have ba5 := (Below.refl w5.heap.size w5).alloc (Nat.le_refl _) (.cells #[.int .i64 2, .int .i64 1, .int .i64 2, .slice (some ⟨gh, 0, none⟩) 1 1] 30)
  have S6 := hid (RnI.new w5 2 1 2 (.slice (some ⟨gh, 0, none⟩) 1 1))
  have B6 := hid (B5.out.trans (ba5.mono B5.out.size))
  have T6 := hid (T5.out.below ba5)
  have R6 := hid (R5.out.below ba5 R5.out.lt)
  clear ba5 B5 T5 R5
  go_upto_region 5 with fail
  generalize w5.alloc (.cells #[.int .i64 2, .int .i64 1, .int .i64 2, .slice (some ⟨gh, 0, none⟩) 1 1] 30) = w6 at *
  have jR := tRoot_any T6.out 2 (HZ.out.below B6.out hT) (show Hid (tPartO [x, y] 0 2 = (Tree.root [x, y], 0)) from tPartO_all)
  rw [show sv (Tree.root [x, y]) = Value.string ⟨(Tree.root [x, y]).toArray⟩ from rfl] at jR
  obtain ⟨val, V, hv⟩ := tol_val (L := [x, y]) (n := 2) (s := 1) (e := 2) (by omega) (by omega) (by simp)
  rw [tol212, show lvR [x, y] 1 2 = [y] from rfl] at V
  rw [show List.take 2 [x, y] = [x, y] from rfl] at hv
  have hy8 : hsB8 [x] = true := by simp [hsB8, H32.out.1]
  have hx8 : hsB8 [y] = true := by simp [hsB8, H32.out.2]
  go_wp2_with (go_at_call 37; fail)
  with_reducible refine jR.mono ?_
  rintro r w7 ⟨rfl, b7⟩
  have S7 := hid (S6.out.below b7)
  have B7 := hid (B6.out.trans (b7.mono B6.out.size))
  have R7 := hid (R6.out.below b7 R6.out.lt)
  clear jR b7 S6 B6 R6 T6
  have jE := fun w' (hb : Below w7.heap.size w7 w') => root14_ok 2 1 2 [x] [y] val V (by omega) (by omega) (by omega) (by simp) (by simp) hy8 hx8 (some ⟨gh, 0, none⟩) (some ⟨w'.heap.size, 0, none⟩) 1 1 (w'.alloc (.cells #[.string ⟨y.toArray⟩] 9)) (R7.out.at.below (hb.alloc hb.size _) (Nat.le_refl _)) (at_one14 w' y) (HZ.out.below (B7.out.trans ((hb.alloc hb.size _).mono B7.out.size)) hT)
  rw [hv] at jE
  simp only [show ([x] : List (List UInt8)).length = 1 from rfl, show ([y] : List (List UInt8)).length = 1 from rfl, show ((2 : Nat) : Int) = 2 from rfl, show ((1 : Nat) : Int) = 1 from rfl, show sv (Tree.root [x, y]) = Value.string ⟨(Tree.root [x, y]).toArray⟩ from rfl] at jE
  generalize Tree.root [x, y] = rr at *
  have mkS : ∀ w', Below w7.heap.size w7 w' → w'.cell? ⟨w5.heap.size, 0, none⟩ = some (.int .i64 2) ∧ w'.cell? ⟨w5.heap.size, 1, none⟩ = some (.int .i64 1) ∧ w'.cell? ⟨w5.heap.size, 2, none⟩ = some (.int .i64 2) ∧ w'.cell? ⟨w5.heap.size, 3, none⟩ = some (.slice (some ⟨gh, 0, none⟩) 1 1) := fun w' hb => ⟨(S7.out.below hb).c0, (S7.out.below hb).c1, (S7.out.below hb).c2, (S7.out.below hb).c3⟩
  have e7 := mkS w7.drew (Below.refl _ w7).drew
  go_upto_region 6 with fail
  go_region_held3 (fun w' => w'.cell? ⟨w5.heap.size, 0, none⟩ = some (.int .i64 2) ∧ w'.cell? ⟨w5.heap.size, 1, none⟩ = some (.int .i64 1) ∧ w'.cell? ⟨w5.heap.size, 2, none⟩ = some (.int .i64 2) ∧ w'.cell? ⟨w5.heap.size, 3, none⟩ = some (.slice (some ⟨gh, 0, none⟩) 1 1)) (first | exact e10 | exact e8a | exact e8 | exact e7)
    (first
      | (go_at_call 19; (with_reducible refine (i2 _).mono ?_); rintro r w8 ⟨rfl, b8'⟩; have b8 := drewBelow8 b8'; have e8 := mkS w8 b8; have b8a := b8.alloc b8.size (.cells #[.string ⟨y.toArray⟩] 9); have e8a := mkS _ b8a; have j10 := jE w8 b8)
      | (go_at_call 15; (with_reducible refine j10.mono ?_); rintro r w10 ⟨rfl, b10'⟩; have b10 := b8a.trans (b10'.mono b8a.size); have e10 := mkS w10 b10))
  have B10 := hid (B7.out.trans (b10.mono B7.out.size))
  have S10 := hid (S7.out.below b10)
  have R10 := hid (R7.out.below b10 R7.out.lt)
  clear mkS e7 e8 e8a e10 b8 b8' b8a b10 b10' jE j10 B7 S7 R7 V hv
  have jN := newJoiner_ok 0 1 (by omega) (by omega) w10
  simp only [show ((0 : Nat) : Int) = 0 from rfl, show ((1 : Nat) : Int) = 1 from rfl] at jN
  go_wp2_with (go_at_call 30; fail)
  with_reducible refine jN.mono ?_
  rintro r w11 ⟨g, rfl, J11, g11, b11⟩
  have ba11 := (Below.refl w11.heap.size w11).alloc (Nat.le_refl _) (.cells #[.string ⟨#[97]⟩] 9)
  have glt := lt_of_heap J11
  have jT := jTake_ok (a := 0) (e := 1) (J11.below ba11) (Ls := []) (OwnM.nil 1 _) (by intro h; cases h) (by simp) [[97]] (by simp) (by simp) (by omega) (fun z hz => by simp at hz; subst hz; simp) (some ⟨w11.heap.size, 0, none⟩) 1 (at_one14 w11 [97]) (fun z hz => by cases hz; exact ⟨by show w11.heap.size ≠ g; omega, by intro h; cases h⟩)
  simp only [show ((0 : Nat) : Int) = 0 from rfl, show ([[97]] : List (List UInt8)).length = 1 from rfl] at jT
  have B11 := hid (B10.out.trans (b11.mono B10.out.size))
  have S11 := hid (S10.out.below b11)
  have R11 := hid (R10.out.below b11 R10.out.lt)
  have BA11 := hid ba11
  have Z11 := hid g11
  have zz := hid B10.out.size
  have hne5 : w5.heap.size ≠ g := by have := lt_of_heap S10.out; omega
  have hneh : gh ≠ g := by have := R10.out.lt; omega
  clear jN b11 J11 B10 S10 R10 ba11 g11
  go_wp2_with (go_at_call 35; fail)
  with_reducible refine jT.mono ?_
  rintro r w12 ⟨rfl, v12, J12, O12, V12, K12⟩
  have k12 : Keep (fun k => k = g) (w11.alloc (.cells #[.string ⟨#[97]⟩] 9)) w12 := ⟨K12.os, K12.tape, K12.output, K12.size, fun k hk hs => K12.block k hk (fun h => by rcases h with h | h; exact hs h; cases h)⟩
  have S12 := hid ((S11.out.below BA11.out).keep k12 hne5)
  have R12 : Hid (Row w12 gh [x]) := (k12.block gh (Nat.lt_of_lt_of_le R11.out.lt BA11.out.size) hneh).trans (R11.out.below BA11.out R11.out.lt)
  have b12 := (B11.out.trans (BA11.out.mono B11.out.size))
  have B12 := hid (b12.trans (keep_below14 k12 b12.size (fun k hk => by have := Z11.out; have := B11.out.size; have := zz.out; omega)))
  have jL := jEntries J12 O12 (by simp)
  have HJ := hid J12
  clear K12 k12 O12 V12 J12 S11 R11 B11 BA11 jT b12
  go_wp2_with (go_at_call 36; fail)
  with_reducible refine jL.mono ?_
  rintro r w13 ⟨v13, rfl, o13, _, b13⟩
  obtain ⟨aE, cE, hv13, hat, _, _⟩ := ownM_at o13
  subst hv13
  simp only [show (([] : List (List UInt8)) ++ [[97]]).length = 1 from rfl]
  obtain ⟨y13, rfl, hb13, hc13⟩ := hat 0 [97] rfl
  have hc13' : w13.cell? y13 = some (.string ⟨#[97]⟩) := hc13
  have J13 := hid (HJ.out.below b13)
  have S13 := hid (S12.out.below b13)
  have R13 := hid (R12.out.below b13 R12.out.lt)
  have B13 := hid (B12.out.trans (b13.mono B12.out.size))
  have C13 := hid hc13'
  clear hat o13 b13 HJ S12 R12 B12 jL hc13 hc13'
  have hxx : ((ByteArray.mk x.toArray).toList == (ByteArray.mk x.toArray).toList) = true := by simp
  have hrr : ((ByteArray.mk rr.toArray).toList == (ByteArray.mk rr.toArray).toList) = true := by simp
  have haa : ((ByteArray.mk #[97]).toList == (ByteArray.mk #[97]).toList) = true := by simp
  have mkS : ∀ w', Below w13.heap.size w13 w' → w'.cell? ⟨w5.heap.size, 3, none⟩ = some (.slice (some ⟨gh, 0, none⟩) 1 1) ∧ w'.cell? ⟨gh, 0, none⟩ = some (.string ⟨x.toArray⟩) ∧ w'.cell? y13 = some (.string ⟨#[97]⟩) := fun w' hb => ⟨(S13.out.below hb).c3, (R13.out.below hb R13.out.lt).cell (j := 0) rfl, (hb.cell hb13).trans C13.out⟩
  have e13 := mkS w13.drew (Below.refl _ w13).drew
  have jD := fun w' (hb : Below w13.heap.size w13 w') => jDone (J13.out.below hb) true (by rfl)
  go_upto_region 12 with fail
  go_region_held3 (fun w' => w'.cell? ⟨w5.heap.size, 3, none⟩ = some (.slice (some ⟨gh, 0, none⟩) 1 1) ∧ w'.cell? ⟨gh, 0, none⟩ = some (.string ⟨x.toArray⟩) ∧ w'.cell? y13 = some (.string ⟨#[97]⟩)) (first | exact e15 | exact e14 | exact e13)
    (first
      | (go_at_call 19; (with_reducible refine (i1 _).mono ?_); rintro r w14 ⟨rfl, b14'⟩; have b14 := drewBelow8 b14'; have e14 := mkS w14 b14)
      | (go_at_call 33; (with_reducible refine (jD _ b14).mono ?_); rintro r w15 ⟨rfl, m15, hw15⟩; have b15 : Below w13.heap.size w13 w15 := b14.trans (by rw [hw15]; exact (drewN_below m15).mono b14.size); clear hw15; have e15 := mkS w15 b15))
  all_goals
    have BE := hid (B13.out.trans (b15.mono B13.out.size))
    clear mkS e13 e14 e15 b15 jD
    go_wp2
    go_ret
    exact ⟨rfl, BE.out⟩
end Spn
end Go.Proofs.YticjokhfjkebpaaGreatDoor

/- Layer 14, the law: SpanTells -/
namespace Go.Proofs.YticjokhfjkebpaaGreatDoor
open Go.RowKit Go.Shelf
namespace Spn
theorem wrg_zero14 {l : List (List UInt8)} (h : Tree.Hs l) (hl : l.length ≤ 4096) : wrg l = 0 := by
  rw [wrg, if_neg (by omega), if_pos]
  rw [List.all_eq_true]
  intro x hx
  simp [h x hx]
/-- the first j numbers from b on -/
abbrev ixr (b j : Nat) : List Int := (List.range' b j).map fun i : Nat => (i : Int)
theorem ixr_len (b j : Nat) : (ixr b j).length = j := by simp [ixr]
theorem ixr_snoc (b j : Nat) : ixr b (j + 1) = ixr b j ++ [((b + j : Nat) : Int)] := by
  unfold ixr
  rw [← List.range'_append_1 (s := b) (m := j) (n := 1), List.map_append]
  rfl
theorem ixr_toN (b j : Nat) : toN (ixr b j) = List.range' b j := by
  unfold toN ixr
  rw [List.map_map]
  exact List.map_id'' (fun i => Int.toNat_natCast i) _
theorem ixr_ok {b j n : Nat} (h0 : 0 < j) (h1 : j ≤ 256) (h2 : b + j ≤ n) : OkI n (ixr b j) := by
  have get : ∀ k (x : Int), (ixr b j)[k]? = some x → k < j ∧ x = ((b + k : Nat) : Int) := fun k x h => by
    obtain ⟨hk, e⟩ := List.getElem?_eq_some_iff.1 h
    rw [ixr_len] at hk
    simp at e
    exact ⟨hk, by rw [← e]; simp⟩
  refine ⟨by rw [ixr_len]; exact h0, by rw [ixr_len]; exact h1, fun k x h => ?_, fun k x y hx hy => ?_⟩
  · obtain ⟨h3, rfl⟩ := get k x h
    omega
  · obtain ⟨h3, rfl⟩ := get k x hx
    obtain ⟨h4, rfl⟩ := get (k + 1) y hy
    omega
theorem pk_nat (c : Int) (k : Nat) (h : 0 < k) : ∃ p : Nat, pk c (k : Int) = (p : Int) ∧ p < k := ⟨(pk c k).toNat, by have := pk_nonneg c k (by omega); omega, by have := pk_lt c k (by omega); have := pk_nonneg c k (by omega); omega⟩
set_option maxRecDepth 100000 in
set_option maxHeartbeats 8000000 in
theorem tells14_any (raw : List Int) (ht sz at' mn : Int) (a : Option Addr) (ca : Nat) (w : World) (h1 : -9223372036854775808 ≤ ht) (h2 : ht ≤ 9223372036854775807) (s1 : -9223372036854775808 ≤ sz) (s2 : sz ≤ 9223372036854775807) (t1 : -9223372036854775808 ≤ at') (t2 : at' ≤ 9223372036854775807) (m1 : -9223372036854775808 ≤ mn) (m2 : mn ≤ 9223372036854775807) (hr : raw.length ≤ 9223372036854775807) (hA : AtI w a raw) (Z : Tb w) :
    Calls Tryz.prog 3 #[.slice a raw.length ca, .int .i64 ht, .int .i64 sz, .int .i64 at', .int .i64 mn] w fun r w' => r = .returned (.bool true) ∧ Below w.heap.size w w' := by
  have i0 := known14_any w Z
  have HZ := hid Z
  have hT := Z.lt
  have HA := hid hA
  obtain ⟨mr, hmr⟩ : ∃ mr, raw.length = mr := ⟨_, rfl⟩
  have j2 := fun w' (hb : Below w.heap.size w w') => numbered_any raw 200 (by omega) a ca w' hr (HA.out.below hb (Nat.le_refl _))
  rw [hmr] at j2 ⊢
  obtain ⟨L, hLL⟩ : ∃ L, nums raw 200 = L := ⟨_, rfl⟩
  have hL32 : Hid (Tree.Hs L) := by unfold Hid; rw [← hLL]; exact nums_hs raw 200
  have hl200 : L.length ≤ 200 := by rw [← hLL, nums_len]; omega
  rw [hLL] at j2
  simp only [show (((200 : Nat) : Int)) = 200 from rfl] at j2
  clear Z hA hLL hmr
  go_enter Tryz.func3, Tryz.ntmps3
  go_wp2_with (go_at_call 8; fail)
  with_reducible refine i0.mono ?_
  rintro r w1 ⟨rfl, b1⟩
  have B1 := hid b1
  clear i0 b1
  have k2 := j2 w1 B1.out
  clear j2
  go_wp2_with (go_at_call 9; fail)
  with_reducible refine k2.mono ?_
  rintro r w2 ⟨v2, rfl, o2, b2⟩
  obtain ⟨al, cl, hv2, hal, hlc, hcm⟩ := Own.at o2
  subst hv2
  have B2 := hid (B1.out.trans (b2.mono B1.out.size))
  have AL2 := hid hal
  obtain ⟨k, hk⟩ : ∃ k, L.length = k := ⟨_, rfl⟩
  have HK := hid hk
  have j3 := Bat.planted12_any ht L hL32.out (by omega) al cl w2 h1 h2 hal (HZ.out.below B2.out hT)
  rw [hk] at j3 hl200 hlc ⊢
  clear k2 o2 b2 hal B1 hk
  go_wp2_with (go_at_call 10; fail)
  with_reducible refine j3.mono ?_
  rintro r w3 ⟨q, h, F, rfl, t3, _, b3⟩
  have B3 := hid (B2.out.trans (b3.mono B2.out.size))
  have AL3 := hid (AL2.out.below b3 (Nat.le_refl _))
  have TR3 := hid t3
  clear j3 t3 b3 B2 AL2
  by_cases hk0 : k = 0
  · subst hk0
    have q0 : (((0 : Nat) : Int) == 0) = true := rfl
    go_wp2
    go_ret
    exact ⟨rfl, B3.out⟩
  have q0 : ((k : Int) == 0) = false := by simp; omega
  obtain ⟨p, hp, hp'⟩ := pk_nat sz k (by omega)
  have j5 := pick_any sz k s1 s2 (by omega) (by omega) w3
  rw [hp] at j5
  obtain ⟨n, hn⟩ : ∃ n : Nat, n = p + 1 := ⟨_, rfl⟩
  have hnw : IntKind.i64.wrap (1 + (p : Int)) = (n : Int) := by rw [IntKind.wrap_i64]; omega
  have hn1 : 1 ≤ n := by omega
  have hnk : n ≤ k := by omega
  obtain ⟨b, hb, hb'⟩ := pk_nat at' n (by omega)
  have j6 := pick_any at' n t1 t2 (by omega) (by omega) w3
  rw [hb] at j6
  obtain ⟨d, hd⟩ : ∃ d : Nat, d = n - b := ⟨_, rfl⟩
  have hdw : IntKind.i64.wrap ((n : Int) - (b : Int)) = (d : Int) := by rw [IntKind.wrap_i64]; omega
  obtain ⟨c, hc, hc'⟩ := pk_nat mn d (by omega)
  have j7 := pick_any mn d m1 m2 (by omega) (by omega) w3
  rw [hc] at j7
  obtain ⟨m, hm⟩ : ∃ m : Nat, m = c + 1 := ⟨_, rfl⟩
  have hmw : IntKind.i64.wrap (1 + (c : Int)) = (m : Int) := by rw [IntKind.wrap_i64]; omega
  obtain ⟨e, he⟩ : ∃ e : Nat, e = b + m := ⟨_, rfl⟩
  have hew : IntKind.i64.wrap ((b : Int) + (m : Int)) = (e : Int) := by rw [IntKind.wrap_i64]; omega
  have hm1 : 1 ≤ m := by omega
  have hen : e ≤ n := by omega
  have hbe : b < e := by omega
  have HE := hid he
  clear hp hp' hn hb hc hd hc' hm he hb'
  go_wp2_with (go_at_call 11; fail)
  with_reducible refine j5.mono ?_
  rintro r w4 ⟨rfl, h0⟩
  have h0 := h0.symm
  subst h0
  go_wp2_with (go_at_call 11; fail)
  with_reducible refine j6.mono ?_
  rintro r w4 ⟨rfl, h0⟩
  have h0 := h0.symm
  subst h0
  go_wp2_with (go_at_call 11; fail)
  with_reducible refine j7.mono ?_
  rintro r w4 ⟨rfl, h0⟩
  have h0 := h0.symm
  subst h0
  clear j5 j6 j7
  have j8 := prove14_ok TR3.out (HZ.out.below B3.out hT) n b e hbe hen (by rw [HK.out]; exact hnk)
  obtain ⟨val, V, hv⟩ := tol_val (L := L) hbe hen (by rw [HK.out]; exact hnk)
  have hmany := tol_many (L := L) hbe hen (by rw [HK.out]; exact hnk)
  have hHs := tolS_hs hL32.out n b e
  have hHl := Nat.le_trans (Nat.le_of_eq (tolS_len (L := L) (n := n) (s := b) (e := e))) (told_len (s := b) (e := e) hn1 (by omega))
  obtain ⟨H, hH⟩ : ∃ H, tolS L n b e = H := ⟨_, rfl⟩
  rw [hH] at j8 V hmany hHs hHl
  have HV := hid V
  have Hv := hid hv
  have HM := hid hmany
  have HHs := hid hHs
  clear V hv hmany hHs hH
  go_wp2_with (go_at_call 12; fail)
  with_reducible refine j8.mono ?_
  rintro r w5 ⟨gh, rfl, r5, _, b5⟩
  have B5 := hid (B3.out.trans (b5.mono B3.out.size))
  have AL5 := hid (AL3.out.below b5 (Nat.le_refl _))
  have R5 := hid r5
  obtain ⟨T, hTT⟩ : ∃ T, H.length = T := ⟨_, rfl⟩
  have HT := hid hTT
  rw [hTT] at hHl ⊢
  clear j8 r5 b5 B3 AL3 TR3 hTT
  have ba := (Below.refl w5.heap.size w5).alloc (Nat.le_refl _) (.cells #[.int .i64 (n : Int), .int .i64 (b : Int), .int .i64 (e : Int), .slice (some ⟨gh, 0, none⟩) T T] 30)
  have W6 := hid (RnI.new w5 (n : Int) (b : Int) (e : Int) (.slice (some ⟨gh, 0, none⟩) T T))
  have B6 := hid (B5.out.trans (ba.mono B5.out.size))
  have AL6 := hid (AL5.out.below ba (Nat.le_refl _))
  have R6 := hid (R5.out.below ba R5.out.lt)
  clear B5 AL5 R5
  go_upto_region 10 with fail
  generalize w5.alloc (.cells #[.int .i64 (n : Int), .int .i64 (b : Int), .int .i64 (e : Int), .slice (some ⟨gh, 0, none⟩) T T] 30) = w6 at *
  clear ba
  go_wp2
  go_loopw [19, 20] (fun v i w' => ∃ x : Nat, b ≤ x ∧ x ≤ e ∧ i = .int .i64 (x : Int) ∧ Hid (Own w' w6.heap.size v (ivs (ixr b (x - b)))) ∧ Hid (Below w6.heap.size w6 w')) (fun _ i _ => e - (intOf i).toNat)
  case atStart => exact ⟨b, by omega, by omega, rfl, by rw [Nat.sub_self]; exact Own.nil _ _, Below.refl _ _⟩
  case round =>
    obtain ⟨x, hx1, hx2, rfl, hO, hB⟩ := hrel
    by_cases hxe : x < e
    · have d0 : (x : Int) < (e : Int) := by omega
      obtain ⟨v3, w3', hap, hO3, hb3⟩ := append_int wr w6.heap.size _ (ixr b (x - b)) (x : Int) hO.out (by rw [ixr_len]; omega) hB.out.size
      have hst : ixr b (x - b) ++ [(x : Int)] = ixr b (x + 1 - b) := by
        rw [show x + 1 - b = x - b + 1 by omega, ixr_snoc, show b + (x - b) = x by omega]
      rw [hst] at hO3
      have O3 := hid hO3
      have B3' := hid (hB.out.trans hb3)
      clear hO3 hb3 hst hO hB
      go_wp2_with (at_builtin; go_must (refine Lib.wpList_append_run _ rfl _ _ 22 22 rfl _ _ rfl rfl _ _ hap ?_))
      exact ⟨⟨x + 1, by omega, by omega, by go_num, O3, B3'⟩, by simp [intOf]; omega⟩
    · obtain rfl : x = e := by omega
      have d0 : ¬ (x : Int) < (x : Int) := by omega
      have hxm : x - b = m := by have := HE.out; omega
      have hOO := hO.out
      rw [hxm] at hOO
      obtain ⟨ai, ci, hvi, hai, hic, him⟩ := Own.atI hOO
      subst hvi
      rw [ixr_len] at hic ⊢
      obtain ⟨xl, rfl⟩ := AL6.out.pos (by rw [HK.out]; omega)
      have AL7 := hid (AL6.out.below hB.out (Nat.le_refl _))
      have B7 := hid (B6.out.trans (hB.out.mono B6.out.size))
      have W7 := hid (W6.out.below hB.out)
      have R7 := hid (R6.out.below hB.out R6.out.lt)
      have hLn : (L.take n).length = n := by rw [List.length_take, HK.out]; omega
      have hLh : Hid (Tree.Hs (L.take n)) := hL32.out.take n
      have hsl1 : (0 : Int) ≤ (n : Int) := by omega
      have hsl2 : (n : Int) ≤ (cl : Int) := by omega
      have j9 := Many_hs hLh.out (by omega) (ixr b m) (by rw [hLn]; exact ixr_ok (by omega) (by omega) (by omega)) (some xl) ai cl ci wr (by omega) hcm (AL7.out.take n) (HZ.out.below B7.out hT).t (by rw [ixr_len]; exact hic) him hai
      rw [ixr_toN, show List.range' b m = rix b x by unfold rix; rw [hxm], ← HM.out, hLn, ixr_len] at j9
      clear hO hB W6 R6 AL6 B6 hOO hai
      go_wp2_with (go_at_call 13; fail)
      with_reducible refine j9.mono ?_
      rintro r w8 ⟨v8, rfl, o8, b8⟩
      obtain ⟨wa, wc, hv8, hwa, hwl, hwm⟩ := Own.at o8
      subst hv8
      rw [HT.out]
      have B8 := hid (B7.out.trans (b8.mono B7.out.size))
      have AL8 := hid (AL7.out.below b8 (Nat.le_refl _))
      have W8 := hid (W7.out.below b8)
      have R8 := hid (R7.out.below b8 R7.out.lt)
      have WA8 := hid hwa
      clear j9 o8 b8 hwa B7 AL7 W7 R7
      have j10 := Root_any (L.take n) (some xl) cl w8 (by omega) hcm (AL8.out.take n) (HZ.out.below B8.out hT).t
      have hro : rootOut (L.take n) = (Tree.root (L.take n), 0) := by unfold rootOut; rw [if_pos (wrg_zero14 hLh.out (by omega))]
      rw [hro, hLn] at j10
      simp only [] at j10
      rw [show sv (Tree.root (L.take n)) = Value.string ⟨(Tree.root (L.take n)).toArray⟩ from rfl] at j10
      go_wp2_with (go_at_call 14; fail)
      with_reducible refine j10.mono ?_
      rintro r w9 ⟨rfl, b9⟩
      have B9 := hid (B8.out.trans (b9.mono B8.out.size))
      have AL9 := hid (AL8.out.below b9 (Nat.le_refl _))
      have W9 := hid (W8.out.below b9)
      have R9 := hid (R8.out.below b9 R8.out.lt)
      have WA9 := hid (WA8.out.below b9 (Nat.le_refl _))
      clear j10 b9 B8 AL8 W8 R8 WA8 hro
      have hlv : (lvR L b x).length = m := by rw [lvR_len (by rw [HK.out]; omega), hxm]
      have jR := root14_ok n b x H (lvR L b x) val HV.out hbe hen (by omega) (by rw [hlv, hxm]) (by omega) (hsB_is HHs.out) (hsB_is ((hL32.out.drop b).take _)) (some ⟨gh, 0, none⟩) (some (xl.add b)) T (cl - b) w9.drew (R9.out.at.below ((Below.refl _ w9).drew) (Nat.le_refl _)) (((AL9.out.drop b).take (x - b)).below ((Below.refl _ w9).drew) (Nat.le_refl _)) (HZ.out.below (B9.out.trans (((Below.refl _ w9).drew).mono B9.out.size)) hT)
      rw [Hv.out, HT.out, hlv, show sv (Tree.root (L.take n)) = Value.string ⟨(Tree.root (L.take n)).toArray⟩ from rfl] at jR
      have hif : (if cl = b then some xl else some (xl.add b)) = some (xl.add b) := if_neg (by omega)
      rw [← hif] at jR
      clear hif
      generalize Tree.root (L.take n) = rr at *
      have y1 : (0 : Int) ≤ (b : Int) := by omega
      have y2 : (b : Int) ≤ (x : Int) := by omega
      have y3 : (x : Int) ≤ (cl : Int) := by omega
      have y4 : ¬ (cl - b = 0) := by omega
      have y5 : IntKind.i64.wrap ((x : Int) - (b : Int)) = (m : Int) := by rw [IntKind.wrap_i64]; omega
      have x0 : w9.drew.cell? ⟨w5.heap.size, 0, none⟩ = some (.int .i64 (n : Int)) ∧ w9.drew.cell? ⟨w5.heap.size, 1, none⟩ = some (.int .i64 (b : Int)) ∧ w9.drew.cell? ⟨w5.heap.size, 2, none⟩ = some (.int .i64 (x : Int)) ∧ w9.drew.cell? ⟨w5.heap.size, 3, none⟩ = some (.slice (some ⟨gh, 0, none⟩) T T) := ⟨W9.out.c0, W9.out.c1, W9.out.c2, W9.out.c3⟩
      go_upto_region 17 with fail
      go_region_held3 (fun w' => w'.cell? ⟨w5.heap.size, 0, none⟩ = some (.int .i64 (n : Int)) ∧ w'.cell? ⟨w5.heap.size, 1, none⟩ = some (.int .i64 (b : Int)) ∧ w'.cell? ⟨w5.heap.size, 2, none⟩ = some (.int .i64 (x : Int)) ∧ w'.cell? ⟨w5.heap.size, 3, none⟩ = some (.slice (some ⟨gh, 0, none⟩) T T)) (first | exact x1 | exact x0)
        (first | (go_at_call 15; (with_reducible refine jR.mono ?_); rintro r w10 ⟨rfl, b10'⟩; have b10 := drewBelow8 b10'; have W10 := W9.out.below b10; have x1 := And.intro W10.c0 (And.intro W10.c1 (And.intro W10.c2 W10.c3))))
      have B10 := hid (B9.out.trans (b10.mono B9.out.size))
      have R10 := R9.out.below b10 R9.out.lt
      have WA10 := WA9.out.below b10 (Nat.le_refl _)
      have kS := same_yes H (some ⟨gh, 0, none⟩) wa T wc w10 R10.at WA10 (by rw [HT.out]; omega)
      rw [HT.out] at kS
      have u0 := x1.1
      have u1 := x1.2.1
      have u2 := x1.2.2.1
      have u3 := x1.2.2.2
      have HW10 := hid W10
      have hrr : ((ByteArray.mk rr.toArray).toList == (ByteArray.mk rr.toArray).toList) = true := by simp
      clear x0 x1 jR b10 b10' R10 WA10 W10 B9 AL9 W9 R9 WA9
      go_wp2_with (go_at_call 16; (with_reducible refine kS.mono ?_); rintro r w11 ⟨rfl, b11, hh11⟩; have W11 := HW10.out.below b11; have B11 := hid (B10.out.trans (b11.mono B10.out.size)); have z0 := W11.c0; have z1 := W11.c1; have z2 := W11.c2; clear W11 hh11 b11)
      go_ret
      exact ⟨rfl, B11.out⟩
end Spn
end Go.Proofs.YticjokhfjkebpaaGreatDoor

namespace Go.Proofs.YticjokhfjkebpaaGreatDoor
open Go.ChangeShapes Go.WideShapes Go.ChangeAt Go.RowKit
theorem gDB : Tryz.prog.globalNamed "math/bits.deBruijn64tab" = some 1 := by kernel_rfl
theorem gDBType : (Tryz.prog.globals[1]?).map (·.type) = some 256 := by kernel_rfl
theorem cells64b : Tryz.prog.cellsOf 256 = 64 := by kernel_rfl
theorem cells1b : Tryz.prog.cellsOf 5 = 1 := by kernel_rfl
def four : List (String × DataW Unit) := [("math/bits.deBruijn32tab", Rows.laid_math_bits_deBruijn32tab), ("math/bits.deBruijn64tab", Rows.laid_math_bits_deBruijn64tab), ("scrivener/digest.start", Rows.laid_scrivener_digest_start), ("scrivener/digest.rounds", Rows.laid_scrivener_digest_rounds)]
theorem tb_of {W : World} (h : laidMet Tryz.prog four W) : Tb W := by
  have h1 := laidMet.tail h
  have h2 : Lib.TabIs Tryz.prog W "math/bits.deBruijn64tab" .u8 (Lib.deBruijn64tab.map Int.ofNat) :=
    Lib.tabIs_of_head gDB gDBType Tryz.underlying256 Tryz.underlying5 cells1b cells64b (show laidMet Tryz.prog (("math/bits.deBruijn64tab", Lib.tabData .u8 (Lib.deBruijn64tab.map Int.ofNat)) :: _) W from h1)
  refine ⟨tabs_of (laidMet.tail h1), fun j hj => ?_⟩
  have := h2.cell gDB j (by rw [List.length_map]; exact hj)
  rw [this]
  simp [List.getD_eq_getElem?_getD]
  rw [List.getElem?_eq_getElem (show j < Lib.deBruijn64tab.length from hj)]; simp
/-- A WORLD FOR THE WITNESS: all four tables laid. -/
noncomputable def laidWorld5 (os : Os) : World :=
  { laidWorld os with
    heap := ((laidWorld os).heap.modify 0 (fillObj (Lib.deBruijn32tab.map fun n => Value.int .u8 (Int.ofNat n)).toArray)).modify 1 (fillObj (Lib.deBruijn64tab.map fun n => Value.int .u8 (Int.ofNat n)).toArray) }
end Go.Proofs.YticjokhfjkebpaaGreatDoor

namespace Go.Proofs.YticjokhfjkebpaaGreatDoor
open Go.ChangeShapes Go.WideShapes Go.ChangeAt Go.RowKit
theorem bytesS : Tryz.prog.bytesOf 9 = 16 := by kernel_rfl
set_option maxRecDepth 100000 in
/-- a slice of texts among the arguments, by its weight -/
theorem open_atF {H : Type} {enc : TypeId × Value → H} {W : World} {base : Nat} {v : Value} {d : DataW H} {p : List MemPlace}
    (hval : Value.okWide Tryz.prog W .any base 24 v) (hd : DataW.Trod enc Tryz.prog W 0 (fun _ => true) true 24 v d p) (hk : ∀ x ∈ DataW.weights Tryz.prog 24 d, x ≤ reachBytes) :
    ∃ a l cap, v = .slice a l.length cap ∧ At W a l ∧ l.length ≤ cap ∧ cap ≤ 9223372036854775807 ∧ l.length ≤ 8796093021952 := by
  obtain ⟨a0, len0, cap0, rfl⟩ := okWide_slice Tryz.underlying24 hval
  obtain ⟨fuel, hf⟩ := hd
  rcases open_strings Tryz.underlying24 Tryz.underlying9 cellsS hf with ⟨hcs, hx⟩ | ⟨a, len, cap, ss, hcs, _, hl, hm, hz, hx, hcell, hsz⟩
  · simp [Value.cells] at hcs
    obtain ⟨rfl, rfl, rfl⟩ := hcs
    exact ⟨none, [], 0, rfl, At.nil _ _, by simp, by omega, by simp⟩
  · simp [Value.cells] at hcs
    obtain ⟨rfl, rfl, rfl⟩ := hcs
    simp only [Prod.mk.injEq] at hx
    obtain ⟨rfl, _⟩ := hx
    simp only [if_true] at hz
    have hlen : ((ss.take len0).map (·.data.toList)).length = len0 := by simp; omega
    have hw : cap0 * 16 ≤ reachBytes := by
      refine hk _ ?_
      rw [DataW.weights, Tryz.underlying24]
      simp only [bytesS]
      have e : (strs (H := H) (ss.take len0)).length + (strs (H := H) (ss.drop len0)).length = cap0 := by simp [strs]; omega
      rw [e]
      exact List.mem_cons_self
    have hr : reachBytes = 140737488351232 := rfl
    refine ⟨some a, (ss.take len0).map (·.data.toList), cap0, by rw [hlen], fun j p hp => ?_, by omega, hm, by omega⟩
    rw [List.getElem?_map, Option.map_eq_some_iff] at hp
    obtain ⟨s, hs, rfl⟩ := hp
    rw [List.getElem?_take] at hs
    split at hs
    · have hj := (List.getElem?_eq_some_iff.1 hs).1
      have hc := hcell j hj
      rw [List.getD_eq_getElem?_getD, hs] at hc
      refine ⟨a, rfl, ?_, hc⟩
      have := block_lt_of_cell hc
      rwa [addr_block] at this
    · cases hs
theorem weights_head {H : Type} {P : Program} {t : TypeId} {ts : List TypeId} {d : DataW H} {r : List (DataW H)} (h : (DataW.weightsEach P (t :: ts) (d :: r)).all (· ≤ reachBytes) = true) : ∀ x ∈ DataW.weights P t d, x ≤ reachBytes := fun x hx => by
  have := List.all_eq_true.1 h x (by rw [DataW.weightsEach]; exact List.mem_append_left _ hx)
  simpa using this
theorem weights_mem {H : Type} {P : Program} {e : TypeId} {d : DataW H} {x : Nat} : ∀ {l : List (DataW H)}, d ∈ l → x ∈ DataW.weights P e d → x ∈ DataW.weightsAll P e l
  | [], h, _ => by cases h
  | f :: r, h, hx => by
    rw [DataW.weightsAll]
    rcases List.mem_cons.1 h with rfl | h
    · exact List.mem_append_left _ hx
    · exact List.mem_append_right _ (weights_mem h hx)
theorem weights_tail {H : Type} {P : Program} {t : TypeId} {ts : List TypeId} {d : DataW H} {r : List (DataW H)} (h : (DataW.weightsEach P (t :: ts) (d :: r)).all (· ≤ reachBytes) = true) : (DataW.weightsEach P ts r).all (· ≤ reachBytes) = true := by
  rw [List.all_eq_true] at h ⊢
  exact fun x hx => h x (by rw [DataW.weightsEach]; exact List.mem_append_right _ hx)
set_option maxRecDepth 100000 in
/-- a slice of texts among the arguments, by its weight, and by its texts' -/
theorem open_atG {H : Type} {enc : TypeId × Value → H} {W : World} {base : Nat} {v : Value} {d : DataW H} {p : List MemPlace}
    (hval : Value.okWide Tryz.prog W .any base 24 v) (hd : DataW.Trod enc Tryz.prog W 0 (fun _ => true) true 24 v d p) (hk : ∀ x ∈ DataW.weights Tryz.prog 24 d, x ≤ reachBytes) :
    ∃ a l cap, v = .slice a l.length cap ∧ At W a l ∧ l.length ≤ cap ∧ cap ≤ 9223372036854775807 ∧ l.length ≤ 8796093021952 ∧ ∀ q ∈ l, q.length ≤ 140737488351232 := by
  obtain ⟨a0, len0, cap0, rfl⟩ := okWide_slice Tryz.underlying24 hval
  obtain ⟨fuel, hf⟩ := hd
  rcases open_strings Tryz.underlying24 Tryz.underlying9 cellsS hf with ⟨hcs, hx⟩ | ⟨a, len, cap, ss, hcs, _, hl, hm, hz, hx, hcell, hsz⟩
  · simp [Value.cells] at hcs
    obtain ⟨rfl, rfl, rfl⟩ := hcs
    exact ⟨none, [], 0, rfl, At.nil _ _, by simp, by omega, by simp, by simp⟩
  · simp [Value.cells] at hcs
    obtain ⟨rfl, rfl, rfl⟩ := hcs
    simp only [Prod.mk.injEq] at hx
    obtain ⟨rfl, _⟩ := hx
    simp only [if_true] at hz
    have hlen : ((ss.take len0).map (·.data.toList)).length = len0 := by simp; omega
    have hr : reachBytes = 140737488351232 := rfl
    have hw : cap0 * 16 ≤ reachBytes := by
      refine hk _ ?_
      rw [DataW.weights, Tryz.underlying24]
      simp only [bytesS]
      have e : (strs (H := H) (ss.take len0)).length + (strs (H := H) (ss.drop len0)).length = cap0 := by simp [strs]; omega
      rw [e]
      exact List.mem_cons_self
    have hq : ∀ s ∈ ss.take len0, s.data.toList.length ≤ reachBytes := fun s hs => by
      refine hk _ ?_
      rw [DataW.weights, Tryz.underlying24]
      refine List.mem_cons_of_mem _ (List.mem_append_left _ (weights_mem (d := .lit (.string s.data.toList)) ?_ ?_))
      · unfold strs
        exact List.mem_map.2 ⟨s, hs, rfl⟩
      · simp [DataW.weights]
    refine ⟨some a, (ss.take len0).map (·.data.toList), cap0, by rw [hlen], fun j p hp => ?_, by omega, hm, by omega, fun q hq' => ?_⟩
    rotate_left
    · obtain ⟨s, hs, rfl⟩ := List.mem_map.1 hq'
      have := hq s hs
      omega
    rw [List.getElem?_map, Option.map_eq_some_iff] at hp
    obtain ⟨s, hs, rfl⟩ := hp
    rw [List.getElem?_take] at hs
    split at hs
    · have hj := (List.getElem?_eq_some_iff.1 hs).1
      have hc := hcell j hj
      rw [List.getD_eq_getElem?_getD, hs] at hc
      refine ⟨a, rfl, ?_, hc⟩
      have := block_lt_of_cell hc
      rwa [addr_block] at this
    · cases hs
set_option maxRecDepth 100000 in
/-- a text among the arguments, by its weight -/
theorem open_strG {H : Type} {enc : TypeId × Value → H} {W : World} {base : Nat} {v : Value} {d : DataW H} {p : List MemPlace}
    (hval : Value.okWide Tryz.prog W .any base 9 v) (hd : DataW.Trod enc Tryz.prog W 0 (fun _ => true) true 9 v d p) (hk : ∀ x ∈ DataW.weights Tryz.prog 9 d, x ≤ reachBytes) :
    ∃ s : List UInt8, v = sv s ∧ s.length ≤ 140737488351232 := by
  obtain ⟨s0, rfl, rfl, rfl, hs0⟩ := ChangeMaps.open_string Tryz.underlying9 hval hd
  have hr : reachBytes = 140737488351232 := rfl
  have := hk s0.data.toList.length (by simp [DataW.weights])
  exact ⟨s0.data.toList, sv_eta s0, by omega⟩
end Go.Proofs.YticjokhfjkebpaaGreatDoor

namespace Go.Proofs.YticjokhfjkebpaaGreatDoor
open Go.ChangeShapes Go.WideShapes Go.ChangeAt Go.RowKit
theorem bytesI : Tryz.prog.bytesOf 3 = 8 := by kernel_rfl
set_option maxRecDepth 100000 in
/-- a slice of whole numbers among the arguments, by its weight -/
theorem open_atIF {H : Type} {enc : TypeId × Value → H} {W : World} {base : Nat} {v : Value} {d : DataW H} {p : List MemPlace}
    (hval : Value.okWide Tryz.prog W .any base 22 v) (hd : DataW.Trod enc Tryz.prog W 0 (fun _ => true) true 22 v d p) (hk : ∀ x ∈ DataW.weights Tryz.prog 22 d, x ≤ reachBytes) :
    ∃ a l cap, v = .slice a l.length cap ∧ AtI W a l ∧ l.length ≤ cap ∧ cap ≤ 9223372036854775807 ∧ l.length ≤ 17592186043904 ∧ ∀ c ∈ l, -9223372036854775808 ≤ c ∧ c ≤ 9223372036854775807 := by
  obtain ⟨a0, len0, cap0, rfl⟩ := okWide_slice Tryz.underlying22 hval
  obtain ⟨fuel, hf⟩ := hd
  rcases open_ints Tryz.underlying22 Tryz.underlying3 cellsI hf with ⟨hcs, hx⟩ | ⟨a, len, cap, zs, hcs, _, hl, hm, hz, hx, hcell, hwf⟩
  · simp [Value.cells] at hcs
    obtain ⟨rfl, rfl, rfl⟩ := hcs
    exact ⟨none, [], 0, rfl, fun j p hp => by simp at hp, by simp, by omega, by simp, fun c hc => by simp at hc⟩
  · simp [Value.cells] at hcs
    obtain ⟨rfl, rfl, rfl⟩ := hcs
    simp only [Prod.mk.injEq] at hx
    obtain ⟨rfl, _⟩ := hx
    simp only [if_true] at hz
    have hlen : (zs.take len0).length = len0 := by simp; omega
    have hw : cap0 * 8 ≤ reachBytes := by
      refine hk _ ?_
      rw [DataW.weights, Tryz.underlying22]
      simp only [bytesI]
      have e : (lits (H := H) .i64 (zs.take len0)).length + (lits (H := H) .i64 (zs.drop len0)).length = cap0 := by simp [lits]; omega
      rw [e]
      exact List.mem_cons_self
    have hr : reachBytes = 140737488351232 := rfl
    refine ⟨some a, zs.take len0, cap0, by rw [hlen], fun j c hc => ?_, by omega, hm, by omega, fun c hc => wf_i64 (hwf c (List.mem_of_mem_take hc))⟩
    rw [List.getElem?_take] at hc
    split at hc
    · have hj := (List.getElem?_eq_some_iff.1 hc).1
      have hc' := hcell j hj
      rw [List.getD_eq_getElem?_getD, hc] at hc'
      refine ⟨a, rfl, ?_, hc'⟩
      have := block_lt_of_cell hc'
      rwa [addr_block] at this
    · cases hc
end Go.Proofs.YticjokhfjkebpaaGreatDoor
