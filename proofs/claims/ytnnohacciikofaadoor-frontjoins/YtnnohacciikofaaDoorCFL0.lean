import Derived.Test.YtnnohacciikofaaDoorCFN1
import Derived.Test.YtnnohacciikofaaDoorCFR6
import Derived.Test.YtnnohacciikofaaDoorCFN9
import Derived.Lib.SmallJoins
import Derived.Test.YtnnohacciikofaaDoorCO29
import Derived.Test.YtnnohacciikofaaDoorCO56
import Derived.Test.YtnnohacciikofaaDoorCFJ4
namespace Go.Proofs.YtnnohacciikofaaDoor
open Go.ChangeShapes Go.WideShapes Go.ChangeAt Go.RowKit
theorem gDB : Tryd.prog.globalNamed "math/bits.deBruijn64tab" = some 1 := by kernel_rfl
theorem gDBType : (Tryd.prog.globals[1]?).map (·.type) = some 104 := by kernel_rfl
theorem cells64b : Tryd.prog.cellsOf 104 = 64 := by kernel_rfl
theorem cells1b : Tryd.prog.cellsOf 5 = 1 := by kernel_rfl
def four : List (String × DataW Unit) := [("math/bits.deBruijn32tab", Rows.laid_math_bits_deBruijn32tab), ("math/bits.deBruijn64tab", Rows.laid_math_bits_deBruijn64tab), ("scrivener/digest.start", Rows.laid_scrivener_digest_start), ("scrivener/digest.rounds", Rows.laid_scrivener_digest_rounds)]
theorem tb_of {W : World} (h : laidMet Tryd.prog four W) : Tb W := by
  have h1 := laidMet.tail h
  have h2 : Lib.TabIs Tryd.prog W "math/bits.deBruijn64tab" .u8 (Lib.deBruijn64tab.map Int.ofNat) :=
    Lib.tabIs_of_head gDB gDBType Tryd.underlying104 Tryd.underlying5 cells1b cells64b (show laidMet Tryd.prog (("math/bits.deBruijn64tab", Lib.tabData .u8 (Lib.deBruijn64tab.map Int.ofNat)) :: _) W from h1)
  refine ⟨tabs_of (laidMet.tail h1), fun j hj => ?_⟩
  have := h2.cell gDB j (by rw [List.length_map]; exact hj)
  rw [this]
  simp [List.getD_eq_getElem?_getD]
  rw [List.getElem?_eq_getElem (show j < Lib.deBruijn64tab.length from hj)]; simp
/-- A WORLD FOR THE WITNESS: all four tables laid. -/
noncomputable def laidWorld5 (os : Os) : World :=
  { laidWorld os with
    heap := ((laidWorld os).heap.modify 0 (fillObj (Lib.deBruijn32tab.map fun n => Value.int .u8 (Int.ofNat n)).toArray)).modify 1 (fillObj (Lib.deBruijn64tab.map fun n => Value.int .u8 (Int.ofNat n)).toArray) }
end Go.Proofs.YtnnohacciikofaaDoor

namespace Go.Proofs.YtnnohacciikofaaDoor
open Go.RowKit
theorem Root_at {l : List (List UInt8)} {r : List UInt8} {z : Int} (h : Hid (rootOut l = (r, z))) (a : Option Addr) (cap : Nat) (w : World) (hl : l.length ≤ cap) (hc : cap ≤ 9223372036854775807) (hA : At w a l) (T : Tabs w) :
    Calls Tryd.prog 13 #[.slice a l.length cap] w fun e w' => e = .returned (.tuple #[sv r, .int .i64 z]) ∧ Below w.heap.size w w' := by
  have := Root_any l a cap w hl hc hA T
  rwa [h.out] at this
theorem Row.first {w : World} {H : Nat} {ps r : List (List UInt8)} (h : Row w H (ps ++ r)) : At w (some ⟨H, 0, none⟩) ps := by
  have := h.at.take ps.length
  rwa [List.take_left] at this
/-- append([]string(nil), l...) -/
theorem append_copy (w : World) (a : Option Addr) (cap : Nat) (L : List (List UInt8)) (hA : At w a L) (hlen : L.length ≤ 8796093021952) :
    ∃ v' w', (Builtin.append_ #[24, 24] 24 #[.slice none 0 0, .slice a L.length cap]).run Tryd.prog w = .ok v' w' ∧ Own w' w.heap.size v' (svs L) ∧ Below w.heap.size w w' := by
  obtain ⟨i0, hi, hz0, hz1, hz2⟩ := info_parts infoS
  by_cases h0 : L.length = 0
  · obtain rfl : L = [] := List.length_eq_zero_iff.1 h0
    have hsrc : Src Tryd.prog 1 24 (.slice a 0 cap) 0 [] w := by
      cases a with
      | none => exact Src.ofNil w Tryd.underlying24 cap
      | some x => exact Src.ofSlice w Tryd.underlying24 x 0 cap [] (by simp) (fun j u hj => by simp at hj) (fun u hu => by simp at hu)
    exact ⟨_, w, append_zero w _ hsrc, Own.nil _ _, Below.refl _ _⟩
  · obtain ⟨x, rfl⟩ := hA.pos (by omega)
    have hsrc : Src Tryd.prog 1 24 (.slice (some x) L.length cap) L.length (svs L) w :=
      Src.ofSlice w Tryd.underlying24 x L.length cap (svs L) (by rw [svs_length, Nat.mul_one]) (fun j u hj => by
        simp only [svs, List.getElem?_map, Option.map_eq_some_iff] at hj
        obtain ⟨p, hp, rfl⟩ := hj
        obtain ⟨y, hy, _, hc⟩ := hA j p hp
        obtain rfl := Option.some.inj hy
        exact hc) (fun u hu => svs_one hu)
    obtain ⟨v', w', h1, h2, h3, h4⟩ := run_append_O (P := Tryd.prog) w w.heap.size 24 24 24 9 i0 (.string ⟨#[]⟩) Tryd.underlying24 hi hz0 hz1 rfl (.slice none 0 0) [] (Own.nil _ _) _ L.length (svs L) hsrc
      (by rw [hz2]; simp; omega) (by rw [maxLen]; simp; omega) (Nat.le_refl _) (fun _ => by omega)
    exact ⟨v', w', h1, by simpa using h2, Below.ofGrown (v := .slice none 0 0) h3 (fun k hk => by cases hk) (Nat.le_refl _)⟩
/-- turned round, the first k of them -/
def rv (l : List (List UInt8)) (k : Nat) : List (List UInt8) := l.reverse.take k ++ l.drop k
theorem rv_len (l : List (List UInt8)) (k : Nat) (hk : k ≤ l.length) : (rv l k).length = l.length := by simp [rv]; omega
theorem rv_zero (l : List (List UInt8)) : rv l 0 = l := by simp [rv]
theorem rv_all (l : List (List UInt8)) : rv l l.length = l.reverse := by
  rw [rv, List.drop_length, List.append_nil, List.take_of_length_le (by simp)]
theorem rv_step (l : List (List UInt8)) (k : Nat) (hk : k < l.length) (p : List UInt8) (hp : l[l.length - 1 - k]? = some p) (r : List (List UInt8)) : (rv l k ++ r).set k p = rv l (k + 1) ++ r := by
  have hr : l.reverse[k]? = some p := by rw [List.getElem?_reverse (by omega)]; exact hp
  have e1 : l.reverse.take (k + 1) = l.reverse.take k ++ [p] := by rw [List.take_add_one, hr]; rfl
  have hd : l.drop k = l[k] :: l.drop (k + 1) := List.drop_eq_getElem_cons hk
  have hl : (l.reverse.take k).length = k := by simp; omega
  rw [rv, rv, e1, hd, List.append_assoc, List.append_assoc, List.append_assoc, List.set_append_right _ _ (by omega), hl, Nat.sub_self]
  rfl
theorem setCell_but (w : World) (H k : Nat) (u : Value) : But H w (w.setCell ⟨H, k, none⟩ u) := But.setCells [u] k (But.refl H w)
end Go.Proofs.YtnnohacciikofaaDoor

namespace Go.Proofs.YtnnohacciikofaaDoor
open Go.ChangeShapes Go.WideShapes Go.ChangeAt Go.RowKit
theorem bytesS : Tryd.prog.bytesOf 9 = 16 := by kernel_rfl
set_option maxRecDepth 100000 in
/-- a slice of texts among the arguments, by its weight -/
theorem open_atF {H : Type} {enc : TypeId × Value → H} {W : World} {base : Nat} {v : Value} {d : DataW H} {p : List MemPlace}
    (hval : Value.okWide Tryd.prog W .any base 24 v) (hd : DataW.Trod enc Tryd.prog W 0 (fun _ => true) true 24 v d p) (hk : ∀ x ∈ DataW.weights Tryd.prog 24 d, x ≤ reachBytes) :
    ∃ a l cap, v = .slice a l.length cap ∧ At W a l ∧ l.length ≤ cap ∧ cap ≤ 9223372036854775807 ∧ l.length ≤ 8796093021952 := by
  obtain ⟨a0, len0, cap0, rfl⟩ := okWide_slice Tryd.underlying24 hval
  obtain ⟨fuel, hf⟩ := hd
  rcases open_strings Tryd.underlying24 Tryd.underlying9 cellsS hf with ⟨hcs, hx⟩ | ⟨a, len, cap, ss, hcs, _, hl, hm, hz, hx, hcell, hsz⟩
  · simp [Value.cells] at hcs
    obtain ⟨rfl, rfl, rfl⟩ := hcs
    exact ⟨none, [], 0, rfl, At.nil _ _, by simp, by omega, by simp⟩
  · simp [Value.cells] at hcs
    obtain ⟨rfl, rfl, rfl⟩ := hcs
    simp only [Prod.mk.injEq] at hx
    obtain ⟨rfl, _⟩ := hx
    simp only [if_true] at hz
    have hlen : ((ss.take len0).map (·.data.toList)).length = len0 := by simp; omega
    have hw : cap0 * 16 ≤ reachBytes := by
      refine hk _ ?_
      rw [DataW.weights, Tryd.underlying24]
      simp only [bytesS]
      have e : (strs (H := H) (ss.take len0)).length + (strs (H := H) (ss.drop len0)).length = cap0 := by simp [strs]; omega
      rw [e]
      exact List.mem_cons_self
    have hr : reachBytes = 140737488351232 := rfl
    refine ⟨some a, (ss.take len0).map (·.data.toList), cap0, by rw [hlen], fun j p hp => ?_, by omega, hm, by omega⟩
    rw [List.getElem?_map, Option.map_eq_some_iff] at hp
    obtain ⟨s, hs, rfl⟩ := hp
    rw [List.getElem?_take] at hs
    split at hs
    · have hj := (List.getElem?_eq_some_iff.1 hs).1
      have hc := hcell j hj
      rw [List.getD_eq_getElem?_getD, hs] at hc
      refine ⟨a, rfl, ?_, hc⟩
      have := block_lt_of_cell hc
      rwa [addr_block] at this
    · cases hs
theorem weights_head {H : Type} {P : Program} {t : TypeId} {ts : List TypeId} {d : DataW H} {r : List (DataW H)} (h : (DataW.weightsEach P (t :: ts) (d :: r)).all (· ≤ reachBytes) = true) : ∀ x ∈ DataW.weights P t d, x ≤ reachBytes := fun x hx => by
  have := List.all_eq_true.1 h x (by rw [DataW.weightsEach]; exact List.mem_append_left _ hx)
  simpa using this
theorem weights_mem {H : Type} {P : Program} {e : TypeId} {d : DataW H} {x : Nat} : ∀ {l : List (DataW H)}, d ∈ l → x ∈ DataW.weights P e d → x ∈ DataW.weightsAll P e l
  | [], h, _ => by cases h
  | f :: r, h, hx => by
    rw [DataW.weightsAll]
    rcases List.mem_cons.1 h with rfl | h
    · exact List.mem_append_left _ hx
    · exact List.mem_append_right _ (weights_mem h hx)
theorem weights_tail {H : Type} {P : Program} {t : TypeId} {ts : List TypeId} {d : DataW H} {r : List (DataW H)} (h : (DataW.weightsEach P (t :: ts) (d :: r)).all (· ≤ reachBytes) = true) : (DataW.weightsEach P ts r).all (· ≤ reachBytes) = true := by
  rw [List.all_eq_true] at h ⊢
  exact fun x hx => h x (by rw [DataW.weightsEach]; exact List.mem_append_right _ hx)
set_option maxRecDepth 100000 in
/-- a slice of texts among the arguments, by its weight, and by its texts' -/
theorem open_atG {H : Type} {enc : TypeId × Value → H} {W : World} {base : Nat} {v : Value} {d : DataW H} {p : List MemPlace}
    (hval : Value.okWide Tryd.prog W .any base 24 v) (hd : DataW.Trod enc Tryd.prog W 0 (fun _ => true) true 24 v d p) (hk : ∀ x ∈ DataW.weights Tryd.prog 24 d, x ≤ reachBytes) :
    ∃ a l cap, v = .slice a l.length cap ∧ At W a l ∧ l.length ≤ cap ∧ cap ≤ 9223372036854775807 ∧ l.length ≤ 8796093021952 ∧ ∀ q ∈ l, q.length ≤ 140737488351232 := by
  obtain ⟨a0, len0, cap0, rfl⟩ := okWide_slice Tryd.underlying24 hval
  obtain ⟨fuel, hf⟩ := hd
  rcases open_strings Tryd.underlying24 Tryd.underlying9 cellsS hf with ⟨hcs, hx⟩ | ⟨a, len, cap, ss, hcs, _, hl, hm, hz, hx, hcell, hsz⟩
  · simp [Value.cells] at hcs
    obtain ⟨rfl, rfl, rfl⟩ := hcs
    exact ⟨none, [], 0, rfl, At.nil _ _, by simp, by omega, by simp, by simp⟩
  · simp [Value.cells] at hcs
    obtain ⟨rfl, rfl, rfl⟩ := hcs
    simp only [Prod.mk.injEq] at hx
    obtain ⟨rfl, _⟩ := hx
    simp only [if_true] at hz
    have hlen : ((ss.take len0).map (·.data.toList)).length = len0 := by simp; omega
    have hr : reachBytes = 140737488351232 := rfl
    have hw : cap0 * 16 ≤ reachBytes := by
      refine hk _ ?_
      rw [DataW.weights, Tryd.underlying24]
      simp only [bytesS]
      have e : (strs (H := H) (ss.take len0)).length + (strs (H := H) (ss.drop len0)).length = cap0 := by simp [strs]; omega
      rw [e]
      exact List.mem_cons_self
    have hq : ∀ s ∈ ss.take len0, s.data.toList.length ≤ reachBytes := fun s hs => by
      refine hk _ ?_
      rw [DataW.weights, Tryd.underlying24]
      refine List.mem_cons_of_mem _ (List.mem_append_left _ (weights_mem (d := .lit (.string s.data.toList)) ?_ ?_))
      · unfold strs
        exact List.mem_map.2 ⟨s, hs, rfl⟩
      · simp [DataW.weights]
    refine ⟨some a, (ss.take len0).map (·.data.toList), cap0, by rw [hlen], fun j p hp => ?_, by omega, hm, by omega, fun q hq' => ?_⟩
    rotate_left
    · obtain ⟨s, hs, rfl⟩ := List.mem_map.1 hq'
      have := hq s hs
      omega
    rw [List.getElem?_map, Option.map_eq_some_iff] at hp
    obtain ⟨s, hs, rfl⟩ := hp
    rw [List.getElem?_take] at hs
    split at hs
    · have hj := (List.getElem?_eq_some_iff.1 hs).1
      have hc := hcell j hj
      rw [List.getD_eq_getElem?_getD, hs] at hc
      refine ⟨a, rfl, ?_, hc⟩
      have := block_lt_of_cell hc
      rwa [addr_block] at this
    · cases hs
set_option maxRecDepth 100000 in
/-- a text among the arguments, by its weight -/
theorem open_strG {H : Type} {enc : TypeId × Value → H} {W : World} {base : Nat} {v : Value} {d : DataW H} {p : List MemPlace}
    (hval : Value.okWide Tryd.prog W .any base 9 v) (hd : DataW.Trod enc Tryd.prog W 0 (fun _ => true) true 9 v d p) (hk : ∀ x ∈ DataW.weights Tryd.prog 9 d, x ≤ reachBytes) :
    ∃ s : List UInt8, v = sv s ∧ s.length ≤ 140737488351232 := by
  obtain ⟨s0, rfl, rfl, rfl, hs0⟩ := ChangeMaps.open_string Tryd.underlying9 hval hd
  have hr : reachBytes = 140737488351232 := rfl
  have := hk s0.data.toList.length (by simp [DataW.weights])
  exact ⟨s0.data.toList, sv_eta s0, by omega⟩
end Go.Proofs.YtnnohacciikofaaDoor

namespace Go.Proofs.YtnnohacciikofaaDoor
open Go.ChangeShapes Go.WideShapes Go.ChangeAt Go.RowKit
theorem cellsSp : Tryd.prog.cellsOf 69 = 2 := by kernel_rfl
set_option maxRecDepth 100000 in
/-- a span among the arguments -/
theorem open_span {H : Type} {enc : TypeId × Value → H} {W : World} {base : Nat} {v : Value} {d : DataW H} {p : List MemPlace}
    (hval : Value.okWide Tryd.prog W .any base 69 v) (hd : DataW.Trod enc Tryd.prog W 0 (fun _ => true) true 69 v d p) :
    ∃ b e : Int, v = .agg #[.int .i64 b, .int .i64 e] := by
  obtain ⟨v0, v1, y0, y1, n, rfl, _, _, h0, h1⟩ := Joins.open_agg2 Tryd.underlying69 (by kernel_rfl) cellsSp hval hd
  obtain ⟨b, hb, _, _⟩ := DataW.trod_int Tryd.underlying3 h0
  obtain ⟨e, he, _, _⟩ := DataW.trod_int Tryd.underlying3 h1
  simp only [List.cons.injEq, and_true] at hb he
  exact ⟨b, e, by rw [hb, he]⟩
end Go.Proofs.YtnnohacciikofaaDoor

namespace Go.Proofs.YtnnohacciikofaaDoor.Tree
/-- which are wanted, of k from b on -/
def wi (wt : List Bool) (b k : Nat) : List Nat := (List.range' b k).filter (fun j => wt.getD j false)
theorem wi_zero (wt : List Bool) (b : Nat) : wi wt b 0 = [] := rfl
theorem wi_add (wt : List Bool) (b k j : Nat) : wi wt b (k + j) = wi wt b k ++ wi wt (b + k) j := by
  rw [wi, wi, wi, ← List.filter_append, ← List.range'_append_1]
theorem wi_succ (wt : List Bool) (b k : Nat) : wi wt b (k + 1) = wi wt b k ++ (if wt.getD (b + k) false then [b + k] else []) := by
  rw [wi_add, wi, wi]
  congr 1
  rw [show List.range' (b + k) 1 = [b + k] from rfl]
  by_cases h : wt.getD (b + k) false = true
  · rw [if_pos h]; simp only [List.filter, h]
  · rw [if_neg h]; simp only [List.filter, h]
theorem wi_mem {wt : List Bool} {b k i : Nat} (h : i ∈ wi wt b k) : b ≤ i ∧ i < b + k := by
  have := (List.mem_filter.1 h).1
  rw [List.mem_range'_1] at this
  exact this
theorem wi_left (wt : List Bool) (b k j : Nat) : (wi wt b (k + j)).filter (· < b + k) = wi wt b k := by
  rw [wi_add, List.filter_append, List.filter_eq_self.2 (fun x hx => by have := wi_mem hx; simp; omega), List.filter_eq_nil_iff.2 (fun x hx => by have := wi_mem hx; simp; omega), List.append_nil]
theorem wi_right (wt : List Bool) (b k j : Nat) : (wi wt b (k + j)).filter (b + k ≤ ·) = wi wt (b + k) j := by
  rw [wi_add, List.filter_append, List.filter_eq_nil_iff.2 (fun x hx => by have := wi_mem hx; simp; omega), List.filter_eq_self.2 (fun x hx => by have := wi_mem hx; simp; omega), List.nil_append]
theorem wi_sorted (wt : List Bool) (b k : Nat) : (wi wt b k).Pairwise (· < ·) := List.Pairwise.filter _ List.pairwise_lt_range'
theorem wi_length (wt : List Bool) (b k : Nat) : (wi wt b k).length ≤ k := by
  have := List.length_filter_le (fun j => wt.getD j false) (List.range' b k)
  rw [List.length_range'] at this
  exact this
/-- a proof of many has at most n less as many -/
theorem wi_many : ∀ (f : Nat) (wt : List Bool) (b : Nat) (l : List T), l.length ≤ f → 1 ≤ l.length → (many (wi wt b l.length) b l).length + (wi wt b l.length).length ≤ l.length
  | 0, wt, b, l, h, h1 => by omega
  | f + 1, wt, b, l, h, h1 => by
    by_cases hi : wi wt b l.length = []
    · rw [hi, many_none h1]; simpa using h1
    · by_cases h2 : l.length = 1
      · have := wi_length wt b l.length
        rw [many_one hi h2]; simpa using this
      · have x := sp_lt (n := l.length) (by omega)
        have y := sp_pos (n := l.length) (by omega)
        have e : l.length = sp l.length + (l.length - sp l.length) := by omega
        have l1 : (l.take (sp l.length)).length = sp l.length := by simp; omega
        have l2 : (l.drop (sp l.length)).length = l.length - sp l.length := by simp
        have ih1 := wi_many f wt b (l.take (sp l.length)) (by omega) (by omega)
        have ih2 := wi_many f wt (b + sp l.length) (l.drop (sp l.length)) (by omega) (by omega)
        rw [l1] at ih1
        rw [l2] at ih2
        have hw : (wi wt b l.length).length = (wi wt b (sp l.length)).length + (wi wt (b + sp l.length) (l.length - sp l.length)).length := by
          conv => lhs; rw [e]
          rw [wi_add, List.length_append]
        have hl := wi_left wt b (sp l.length) (l.length - sp l.length)
        have hr := wi_right wt b (sp l.length) (l.length - sp l.length)
        rw [← e] at hl hr
        rw [many_cut hi (by omega), hl, hr, List.length_append]
        omega
end Go.Proofs.YtnnohacciikofaaDoor.Tree
namespace Go.Proofs.YtnnohacciikofaaDoor
open Go.RowKit
theorem At.split {w : World} {x : Addr} {l r : List (List UInt8)} (h : At w (some x) (l ++ r)) : At w (some (x.add l.length)) r := by
  have := h.drop l.length
  rwa [List.drop_left] at this
/-- what is told: a root, and what is left of the proof -/
def OutT (w : World) (r : List UInt8) (R : List (List UInt8)) (e : Ending) (w' : World) : Prop :=
  ∃ a' c', e = .returned (.tuple #[sv r, .slice a' R.length c', .bool true]) ∧ At w' a' R ∧ R.length ≤ c' ∧ c' ≤ 9223372036854775807 ∧ Below w.heap.size w w'
end Go.Proofs.YtnnohacciikofaaDoor

namespace Go.Proofs.YtnnohacciikofaaDoor
open Go.RowKit
theorem infoBl : (Tryd.prog.info? 3).map (fun i => (i.zero, i.size, i.bytes)) = some (some (.int .i64 0), 1, 8) := by kernel_rfl
def ivs (L : List Int) : List Value := L.map (.int .i64)
theorem ivs_length (L : List Int) : (ivs L).length = L.length := by simp [ivs]
/-- append(l, i) -/
theorem append_int (w : World) (base : Nat) (v : Value) (L : List Int) (p : Int) (hown : Own w base v (ivs L)) (hlen : L.length ≤ 2000000) (hbase : base ≤ w.heap.size) :
    ∃ v' w', (Builtin.append_ #[22, 22] 22 #[v, .slice (some ⟨w.heap.size, 0, none⟩) 1 1]).run Tryd.prog (w.alloc (.cells #[.int .i64 p] 3)) = .ok v' w' ∧ Own w' base v' (ivs (L ++ [p])) ∧ Below base w w' := by
  obtain ⟨i0, hi, hz0, hz1, hz2⟩ := info_parts infoBl
  have hsrc : Src Tryd.prog 1 22 (.slice (some ⟨w.heap.size, 0, none⟩) 1 1) 1 [.int .i64 p] (w.alloc (.cells #[.int .i64 p] 3)) :=
    Src.ofSlice _ Tryd.underlying22 ⟨w.heap.size, 0, none⟩ 1 1 [.int .i64 p] (by simp) (fun j u hj => by
      rw [Addr.add_mid, cell_of_row _ _ _ _ _ _ (heap_alloc_new w _), Nat.zero_add]; simpa using hj) (fun u hu => by simp at hu; subst hu; rfl)
  obtain ⟨v', w', h1, h2, h3, h4⟩ := run_append_O (P := Tryd.prog) (w.alloc (.cells #[.int .i64 p] 3)) base 22 22 22 3 i0 (.int .i64 0) Tryd.underlying22 hi hz0 hz1 rfl v (ivs L) (hown.alloc _) _ 1 [.int .i64 p] hsrc
    (by rw [ivs_length, hz2]; omega) (by rw [ivs_length, maxLen]; omega) (by rw [size_alloc]; omega) (fun _ => by omega)
  refine ⟨v', w', h1, by simpa [ivs] using h2, ?_⟩
  exact ((Below.refl base w).alloc hbase _).trans (Below.ofGrown h3 hown.ge (by rw [size_alloc]; omega))
theorem Own.atI {w : World} {base : Nat} {v : Value} {L : List Int} (h : Own w base v (ivs L)) : ∃ a cap, v = .slice a L.length cap ∧ AtI w a L ∧ L.length ≤ cap ∧ cap ≤ 9223372036854775807 := by
  rcases h with ⟨rfl, h⟩ | ⟨g, cap, rfl, h1, h2, h3, h4, h5, h6⟩
  · obtain rfl : L = [] := by simpa [ivs] using h
    exact ⟨none, 0, rfl, AtI.nil _ _, by simp, by omega⟩
  · rw [ivs_length] at h2
    refine ⟨some ⟨g, 0, none⟩, cap, by rw [ivs_length], fun j p hp => ⟨_, rfl, h6, ?_⟩, h2, h3⟩
    rw [Addr.add_mid]
    exact h4 j (.int .i64 p) (by simp [ivs, hp])
/-- a row of yes and no -/
def RowB (w : World) (H : Nat) (L : List Bool) : Prop := w.heap[H]? = some (.cells (bls L).toArray 4 (0, 0))
theorem RowB.lt {w : World} {H : Nat} {L : List Bool} (h : RowB w H L) : H < w.heap.size := lt_of_heap h
theorem RowB.cell {w : World} {H : Nat} {L : List Bool} (h : RowB w H L) {j : Nat} {p : Bool} (hp : L[j]? = some p) : w.cell? ⟨H, j, none⟩ = some (.bool p) := by
  rw [cell_of_row _ _ _ _ _ _ h]; simp [bls, hp]
theorem RowB.at {w : World} {H : Nat} {L : List Bool} (h : RowB w H L) : AtB w (some ⟨H, 0, none⟩) L := fun j p hp => ⟨_, rfl, h.lt, by rw [Addr.add_mid, Nat.zero_add]; exact h.cell hp⟩
theorem RowB.free {w : World} {H : Nat} {L : List Bool} (h : RowB w H L) {j : Nat} (hj : j < L.length) : w.frozen? ⟨H, j, none⟩ = false := by
  have := (there_of_row h 0 L.length (by simp [bls])) j hj
  rw [Nat.zero_add] at this
  exact this.2
theorem RowB.below {w w' : World} {H B : Nat} {L : List Bool} (h : RowB w H L) (hb : Below B w w') (hB : H < B) : RowB w' H L := by
  unfold RowB; rw [hb.block H hB]; exact h
theorem RowB.set {w : World} {H : Nat} {L : List Bool} (h : RowB w H L) (k : Nat) (x : Bool) : RowB (w.setCell ⟨H, k, none⟩ (.bool x)) H (L.set k x) := by
  have e := setCell_eq_setRow w H k (bls L).toArray 4 (0, 0) (.bool x) h
  unfold RowB
  rw [e, setRow_heap _ _ _ _ _ _ h]
  refine congrArg (fun A => some (Obj.cells A 4 (0, 0))) ?_
  simp [bls, List.map_set]
/-- make([]bool, c) -/
theorem make_bools3 (w : World) (c : Nat) (hc : c ≤ 20000000) :
    (Instr.makeSlice 32 (.int .i64 (c : Int)) (.int .i64 (c : Int))).run Tryd.prog w = .ok (.slice (some ⟨w.heap.size, 0, none⟩) c c) (w.alloc (.cells (bls (List.replicate c false)).toArray 4)) := by
  obtain ⟨i0, hi, hz0, hz1, hz2⟩ := info_parts infoB
  have h := run_make (P := Tryd.prog) w 32 4 i0 (.bool false) Tryd.underlying32 hi hz0 .i64 .i64 (c : Int) (c : Int) (by omega) (by omega) (by rw [hz2]; omega) (by omega)
  rw [Int.toNat_natCast, hz1, Nat.mul_one] at h
  have e : madeCells (Value.bool false).cells c = (bls (List.replicate c false)).toArray := by
    apply Array.ext'
    rw [show (madeCells (Value.bool false).cells c).toList = List.replicate c (.bool false) from toList_madeCells_one _ _]
    simp [bls]
  rw [e] at h
  exact h
/-- the wanted, as indices -/
theorem wi_ok (wt : List Bool) (n : Nat) (h : wt.length = n) (h2 : n ≤ 200) (hne : Tree.wi wt 0 n ≠ []) : OkI n (ix (Tree.wi wt 0 n)) := by
  have hs := Tree.wi_sorted wt 0 n
  refine ⟨by rw [ix_len]; exact List.length_pos_iff.2 hne, by rw [ix_len]; have := Tree.wi_length wt 0 n; omega, fun j x hx => ?_, fun j x y hx hy => ?_⟩
  · simp only [ix, List.getElem?_map, Option.map_eq_some_iff] at hx
    obtain ⟨i, hi, rfl⟩ := hx
    have := Tree.wi_mem (List.mem_of_getElem? hi)
    omega
  · simp only [ix, List.getElem?_map, Option.map_eq_some_iff] at hx hy
    obtain ⟨i, hi, rfl⟩ := hx
    obtain ⟨k, hk, rfl⟩ := hy
    have h1 := (List.getElem?_eq_some_iff.1 hi)
    have h2 := (List.getElem?_eq_some_iff.1 hk)
    obtain ⟨a1, rfl⟩ := h1
    obtain ⟨a2, rfl⟩ := h2
    have := List.pairwise_iff_getElem.1 hs j (j + 1) a1 a2 (by omega)
    omega
theorem toN_ix (is : List Nat) : toN (ix is) = is := by
  have e : (Int.toNat ∘ fun (i : Nat) => (i : Int)) = id := by funext i; simp
  rw [toN, ix, List.map_map, e, List.map_id]
end Go.Proofs.YtnnohacciikofaaDoor

namespace Go.Proofs.YtnnohacciikofaaDoor
open Go.ChangeShapes Go.WideShapes Go.ChangeAt Go.RowKit
theorem ivs_one3 {l : List Int} : ∀ u ∈ ivs l, u.oneCell' = true := fun u hu => by
  obtain ⟨x, _, rfl⟩ := List.mem_map.1 hu
  rfl
theorem appendI_zero (w : World) (x : Value) (hs : Src Tryd.prog 1 22 x 0 [] w) :
    (Builtin.append_ #[22, 22] 22 #[.slice none 0 0, x]).run Tryd.prog w = .ok (.slice none 0 0) w := by
  obtain ⟨i0, hi, hz0, hz1, hz2⟩ := info_parts infoI3
  have hc := hs.cells
  rw [← hz1] at hc
  simp [Builtin.append_, run_underlying Tryd.underlying22, sizeOf, typeInfo, hi, hs.len, hc]
/-- append([]int(nil), l...) -/
theorem append_copyI (w : World) (a : Option Addr) (cap : Nat) (L : List Int) (hA : AtI w a L) (hlen : L.length ≤ 17592186043904) :
    ∃ v' w', (Builtin.append_ #[22, 22] 22 #[.slice none 0 0, .slice a L.length cap]).run Tryd.prog w = .ok v' w' ∧ Own w' w.heap.size v' (ivs L) ∧ Below w.heap.size w w' := by
  obtain ⟨i0, hi, hz0, hz1, hz2⟩ := info_parts infoI3
  by_cases h0 : L.length = 0
  · obtain rfl : L = [] := List.length_eq_zero_iff.1 h0
    have hsrc : Src Tryd.prog 1 22 (.slice a 0 cap) 0 [] w := by
      cases a with
      | none => exact Src.ofNil w Tryd.underlying22 cap
      | some x => exact Src.ofSlice w Tryd.underlying22 x 0 cap [] (by simp) (fun j u hj => by simp at hj) (fun u hu => by simp at hu)
    exact ⟨_, w, appendI_zero w _ hsrc, Own.nil _ _, Below.refl _ _⟩
  · obtain ⟨x, rfl⟩ := hA.pos (by omega)
    have hsrc : Src Tryd.prog 1 22 (.slice (some x) L.length cap) L.length (ivs L) w :=
      Src.ofSlice w Tryd.underlying22 x L.length cap (ivs L) (by rw [ivs_length, Nat.mul_one]) (fun j u hj => by
        simp only [ivs, List.getElem?_map, Option.map_eq_some_iff] at hj
        obtain ⟨p, hp, rfl⟩ := hj
        obtain ⟨y, hy, _, hc⟩ := hA j p hp
        obtain rfl := Option.some.inj hy
        exact hc) (fun u hu => ivs_one3 u hu)
    obtain ⟨v', w', h1, h2, h3, h4⟩ := run_append_O (P := Tryd.prog) w w.heap.size 22 22 22 3 i0 (.int .i64 0) Tryd.underlying22 hi hz0 hz1 rfl (.slice none 0 0) [] (Own.nil _ _) _ L.length (ivs L) hsrc
      (by rw [hz2]; simp; omega) (by rw [maxLen]; simp; omega) (Nat.le_refl _) (fun _ => by omega)
    exact ⟨v', w', h1, by simpa using h2, Below.ofGrown (v := .slice none 0 0) h3 (fun k hk => by cases hk) (Nat.le_refl _)⟩
/-- eight numbers behind a list -/
def sevens : List Int := [77, 77, 77, 77, 77, 77, 77, 77]
theorem append_77 (w : World) (base : Nat) (v : Value) (L : List Int) (hown : Own w base v (ivs L)) (hlen : L.length ≤ 17592186043904) (hbase : base ≤ w.heap.size) :
    ∃ v' w', (Builtin.append_ #[22, 22] 22 #[v, .slice (some ⟨w.heap.size, 0, none⟩) 8 8]).run Tryd.prog (w.alloc (.cells #[.int .i64 77, .int .i64 77, .int .i64 77, .int .i64 77, .int .i64 77, .int .i64 77, .int .i64 77, .int .i64 77] 3)) = .ok v' w' ∧ Own w' base v' (ivs (L ++ sevens)) ∧ Below base w w' := by
  obtain ⟨i0, hi, hz0, hz1, hz2⟩ := info_parts infoI3
  have hsrc : Src Tryd.prog 1 22 (.slice (some ⟨w.heap.size, 0, none⟩) 8 8) 8 (ivs sevens) (w.alloc (.cells #[.int .i64 77, .int .i64 77, .int .i64 77, .int .i64 77, .int .i64 77, .int .i64 77, .int .i64 77, .int .i64 77] 3)) :=
    Src.ofSlice _ Tryd.underlying22 ⟨w.heap.size, 0, none⟩ 8 8 (ivs sevens) (by simp [ivs, sevens]) (fun j u hj => by
      rw [Addr.add_mid, cell_of_row _ _ _ _ _ _ (heap_alloc_new w _), Nat.zero_add]; simpa [ivs, sevens] using hj) (fun u hu => ivs_one3 u hu)
  obtain ⟨v', w', h1, h2, h3, h4⟩ := run_append_O (P := Tryd.prog) _ base 22 22 22 3 i0 (.int .i64 0) Tryd.underlying22 hi hz0 hz1 rfl v (ivs L) (hown.alloc _) _ 8 (ivs sevens) hsrc
    (by rw [ivs_length, hz2]; omega) (by rw [ivs_length, maxLen]; omega) (by rw [size_alloc]; omega) (fun _ => by omega)
  refine ⟨v', w', h1, by simpa [ivs] using h2, ((Below.refl base w).alloc hbase _).trans (Below.ofGrown h3 hown.ge (by rw [size_alloc]; omega))⟩
theorem bytesI : Tryd.prog.bytesOf 3 = 8 := by kernel_rfl
set_option maxRecDepth 100000 in
/-- a slice of whole numbers among the arguments, by its weight -/
theorem open_atIF {H : Type} {enc : TypeId × Value → H} {W : World} {base : Nat} {v : Value} {d : DataW H} {p : List MemPlace}
    (hval : Value.okWide Tryd.prog W .any base 22 v) (hd : DataW.Trod enc Tryd.prog W 0 (fun _ => true) true 22 v d p) (hk : ∀ x ∈ DataW.weights Tryd.prog 22 d, x ≤ reachBytes) :
    ∃ a l cap, v = .slice a l.length cap ∧ AtI W a l ∧ l.length ≤ cap ∧ cap ≤ 9223372036854775807 ∧ l.length ≤ 17592186043904 ∧ ∀ c ∈ l, -9223372036854775808 ≤ c ∧ c ≤ 9223372036854775807 := by
  obtain ⟨a0, len0, cap0, rfl⟩ := okWide_slice Tryd.underlying22 hval
  obtain ⟨fuel, hf⟩ := hd
  rcases open_ints Tryd.underlying22 Tryd.underlying3 cellsI hf with ⟨hcs, hx⟩ | ⟨a, len, cap, zs, hcs, _, hl, hm, hz, hx, hcell, hwf⟩
  · simp [Value.cells] at hcs
    obtain ⟨rfl, rfl, rfl⟩ := hcs
    exact ⟨none, [], 0, rfl, fun j p hp => by simp at hp, by simp, by omega, by simp, fun c hc => by simp at hc⟩
  · simp [Value.cells] at hcs
    obtain ⟨rfl, rfl, rfl⟩ := hcs
    simp only [Prod.mk.injEq] at hx
    obtain ⟨rfl, _⟩ := hx
    simp only [if_true] at hz
    have hlen : (zs.take len0).length = len0 := by simp; omega
    have hw : cap0 * 8 ≤ reachBytes := by
      refine hk _ ?_
      rw [DataW.weights, Tryd.underlying22]
      simp only [bytesI]
      have e : (lits (H := H) .i64 (zs.take len0)).length + (lits (H := H) .i64 (zs.drop len0)).length = cap0 := by simp [lits]; omega
      rw [e]
      exact List.mem_cons_self
    have hr : reachBytes = 140737488351232 := rfl
    refine ⟨some a, zs.take len0, cap0, by rw [hlen], fun j c hc => ?_, by omega, hm, by omega, fun c hc => wf_i64 (hwf c (List.mem_of_mem_take hc))⟩
    rw [List.getElem?_take] at hc
    split at hc
    · have hj := (List.getElem?_eq_some_iff.1 hc).1
      have hc' := hcell j hj
      rw [List.getD_eq_getElem?_getD, hc] at hc'
      refine ⟨a, rfl, ?_, hc'⟩
      have := block_lt_of_cell hc'
      rwa [addr_block] at this
    · cases hc
end Go.Proofs.YtnnohacciikofaaDoor

namespace Go.Proofs.YtnnohacciikofaaDoor
end Go.Proofs.YtnnohacciikofaaDoor
