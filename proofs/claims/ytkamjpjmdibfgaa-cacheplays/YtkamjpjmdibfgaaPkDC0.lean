import Derived.Test.YtkamjpjmdibfgaaRows
import Derived.WalkKit
import Derived.ProofKit
import Derived.OpenShut
import Derived.Deep.DeepHandedRow
import Derived.Carry
import Derived.ChangeOld
import Derived.LaidLaws
import Derived.SliceStrings
import Derived.Deep.SlicePairs
import Derived.Test.YtkamjpjmdibfgaaPkDV0
namespace Go.Proofs.Ytkamjpjmdibfgaa
open Go.ChangeShapes Go.WideShapes Go.ChangeAt Go.RowKit

/-- What was read ahead of the call reads so behind it: nothing old has turned. -/
theorem stays_all {H : Type} {enc : TypeId × Value → H} {P : Program} (hl : laidOutB P = true) {W W' : World} (hb : Below W.heap.size W W') {sp : Nat → Bool} :
    ∀ {ts : List TypeId} {vs : List Value} {ds : List (DataW H)} {p : List MemPlace}, (ts.all fun t => P.readableRec t && decide (t < P.types.size)) = true →
      DataW.TrodAll enc P W 0 (fun _ => true) true ts vs ds p → (∀ x ∈ p, x.block < W.heap.size) → (∀ x ∈ p, sp x.block = true) → DataW.TrodAll enc P W' 0 sp true ts vs ds p
  | [], _, _, _, _, h, _, _ => by obtain ⟨rfl, rfl, rfl⟩ := trodAll_nil h; exact trodAll_mk0
  | t :: ts, _, _, _, ht, h, hlt, hs => by
    obtain ⟨v, vs1, d, ds1, a, b, rfl, rfl, rfl, h1, h2⟩ := trodAll_cons h
    simp only [List.all_cons, Bool.and_eq_true, decide_eq_true_eq] at ht
    refine trodAll_cons_mk (WideElems.Trod_stays hl ht.1.1 ht.1.2 h1 (fun x hx => hb.same (hlt x (by simp [hx]))) (fun x hx => hs x (by simp [hx]))) ?_
    exact stays_all hl hb (by simpa using ht.2) h2 (fun x hx => hlt x (by simp [hx])) (fun x hx => hs x (by simp [hx]))
/-- THE ROW's POST, for a law that returns true and turns nothing that was there. -/
theorem post_true {H : Type} {enc : TypeId × Value → H} {P : Program} {f : Func} {s : ChangeSpec} {W W' : World} {args : Array Value} {ds gs : List (DataW H)} {before : List MemPlace} {bt : TypeId} (hl : laidOutB P = true)
    (hts : (f.params.toList.all fun t => P.readableRec t && decide (t < P.types.size)) = true) (hrt : f.resultTypes = #[bt]) (hbt : P.underlying bt = some .bool)
    (hvs : s.vars = []) (hr : (s.fn H (ds ++ gs)).results = [.lit (.bool true)]) (ha : (s.fn H (ds ++ gs)).args = ds) (hv : (s.fn H (ds ++ gs)).vars = [])
    (hW : DataW.Whole enc P f.params.toList s.vars false W args.toList ds gs before) (hb : Below W.heap.size W W') :
    s.post enc P f false true false false W args (.bool true) W' := by
  have hW' := hW
  have hlt : ∀ x ∈ before, x.block < W.heap.size := fun x hx => by simpa using hW.lt x hx
  obtain ⟨p, q, hA, hV, rfl, _, _⟩ := hW
  rw [hvs] at hV
  obtain ⟨rfl, rfl⟩ := trodVars_none hV
  refine ⟨ds, [], p ++ [], [], p, [], hW', ?_, ?_, ?_, hb.frame _, fun h => by cases h⟩
  · rw [hr, hrt]
    exact trodAll_cons_mk (shut_bool hbt true) trodAll_mk0
  · rw [ha]
    exact stays_all hl hb hts hA (fun x hx => hlt x (by simp [hx])) (fun x hx => by simpa using hlt x (by simp [hx]))
  · rw [hv, hvs]; rfl
theorem own : ownKnob Try.prog.godebug = none := by kernel_rfl
theorem laidOut : laidOutB Try.prog = true := by kernel_rfl
noncomputable def plainWorld (os : Os) : World := World.holding Try.prog os ⟨#[], #[], []⟩
theorem wf_i64 {n : Int} (h : (Lit.int .i64 n).wf = true) : -9223372036854775808 ≤ n ∧ n ≤ 9223372036854775807 := by
  simp only [Lit.wf, Bool.and_eq_true, decide_eq_true_eq] at h
  have e1 : IntKind.i64.min = -9223372036854775808 := by decide
  have e2 : IntKind.i64.max = 9223372036854775807 := by decide
  rw [e1, e2] at h
  exact h
end Go.Proofs.Ytkamjpjmdibfgaa

namespace Go.Proofs.Ytkamjpjmdibfgaa
open Go.ChangeShapes Go.WideShapes Go.ChangeAt Go.RowKit Go.Deep
theorem cellsI : Try.prog.cellsOf 3 = 1 := by kernel_rfl
/-- a list of puts, wherever it lies -/
def SlcPt (w : World) (v : Value) (n : Nat) : Prop :=
  ∃ (a : Option Addr) (cap : Nat), v = .slice a n cap ∧ ∀ j, j < n → ∃ (x : Addr) (fl : Bool) (pg_ cc : Int), a = some x ∧ x.block < w.heap.size ∧ w.cell? (x.add (j * 3)) = some (.bool fl) ∧ w.cell? (x.add (j * 3 + 1)) = some (.int .i64 pg_) ∧ w.cell? (x.add (j * 3 + 2)) = some (.int .i64 cc) ∧
    (-9223372036854775808 ≤ pg_ ∧ pg_ ≤ 9223372036854775807) ∧ (-9223372036854775808 ≤ cc ∧ cc ≤ 9223372036854775807)
theorem cellsB9 : Try.prog.cellsOf 4 = 1 := by kernel_rfl
end Go.Proofs.Ytkamjpjmdibfgaa

/- Layer 15, the laws' arguments: a list of steps -/
namespace Go.Proofs.Ytkamjpjmdibfgaa
open Go.ChangeShapes Go.WideShapes Go.ChangeAt Go.RowKit Go.Deep
/-- a list of steps, wherever it lies -/
def SlcO (w : World) (v : Value) (n : Nat) : Prop :=
  ∃ (a : Option Addr) (cap : Nat), v = .slice a n cap ∧ ∀ j, j < n → ∃ (x : Addr) (fl : Bool) (kd nn : Int) (k s : ByteArray), a = some x ∧ x.block < w.heap.size ∧ w.cell? (x.add (j * 5)) = some (.bool fl) ∧ w.cell? (x.add (j * 5 + 1)) = some (.int .i64 kd) ∧ w.cell? (x.add (j * 5 + 2)) = some (.int .i64 nn) ∧ w.cell? (x.add (j * 5 + 3)) = some (.string k) ∧ w.cell? (x.add (j * 5 + 4)) = some (.string s) ∧
    (-9223372036854775808 ≤ kd ∧ kd ≤ 9223372036854775807) ∧ (-9223372036854775808 ≤ nn ∧ nn ≤ 9223372036854775807) ∧ k.size ≤ 140737488351232 ∧ s.size ≤ 140737488351232
theorem cellsO15 : Try.prog.cellsOf 35 = 5 := by kernel_rfl
theorem cellsB15 : Try.prog.cellsOf 4 = 1 := by kernel_rfl
theorem cellsS15 : Try.prog.cellsOf 9 = 1 := by kernel_rfl
theorem structO15 : ∃ f0 f1 f2 f3 f4 : Field, Try.prog.underlying 35 = some (.struct #[f0, f1, f2, f3, f4]) ∧ f0.offset = 0 ∧ f1.offset = 1 ∧ f2.offset = 2 ∧ f3.offset = 3 ∧ f4.offset = 4 ∧ f0.type = 4 ∧ f1.type = 3 ∧ f2.type = 3 ∧ f3.type = 9 ∧ f4.type = 9 :=
  ⟨_, _, _, _, _, Try.underlying35, rfl, rfl, rfl, rfl, rfl, rfl, rfl, rfl, rfl, rfl⟩
theorem weights_head15 {H : Type} {P : Program} {t : TypeId} {ts : List TypeId} {d : DataW H} {r : List (DataW H)} (h : (DataW.weightsEach P (t :: ts) (d :: r)).all (· ≤ reachBytes) = true) : ∀ x ∈ DataW.weights P t d, x ≤ reachBytes := fun x hx => by
  have := List.all_eq_true.1 h x (by rw [DataW.weightsEach]; exact List.mem_append_left _ hx)
  simpa using this
theorem weights_tail15 {H : Type} {P : Program} {t : TypeId} {ts : List TypeId} {d : DataW H} {r : List (DataW H)} (h : (DataW.weightsEach P (t :: ts) (d :: r)).all (· ≤ reachBytes) = true) : (DataW.weightsEach P ts r).all (· ≤ reachBytes) = true := by
  rw [List.all_eq_true] at h ⊢
  exact fun x hx => h x (by rw [DataW.weightsEach]; exact List.mem_append_right _ hx)
theorem weights_mem15 {H : Type} {P : Program} {e : TypeId} {d : DataW H} {x : Nat} : ∀ {l : List (DataW H)}, d ∈ l → x ∈ DataW.weights P e d → x ∈ DataW.weightsAll P e l
  | [], h, _ => by cases h
  | f :: r, h, hx => by
    rw [DataW.weightsAll]
    rcases List.mem_cons.1 h with rfl | h
    · exact List.mem_append_left _ hx
    · exact List.mem_append_right _ (weights_mem15 h hx)
set_option maxRecDepth 100000 in
theorem open_slcO {H : Type} {enc : TypeId × Value → H} {W : World} {base : Nat} {v : Value} {d : DataW H} {p : List MemPlace}
    (hval : Value.okWide Try.prog W .any base 22 v) (hd : DataW.Trod enc Try.prog W 0 (fun _ => true) true 22 v d p) (hk : ∀ x ∈ DataW.weights Try.prog 22 d, x ≤ reachBytes) :
    ∃ n, SlcO W v n ∧ n ≤ 9223372036854775807 := by
  obtain ⟨a0, len0, cap0, rfl⟩ := okWide_slice Try.underlying22 hval
  obtain ⟨fuel, hf⟩ := hd
  rcases open_slice Try.underlying22 hf with ⟨hcs, hx⟩ | ⟨a, len, cap, m, k, D, Pl, hcs, _, hl, hm, hmm, hx, hel⟩
  · simp [Value.cells] at hcs
    obtain ⟨rfl, rfl, rfl⟩ := hcs
    exact ⟨0, ⟨none, 0, rfl, fun j hj => by omega⟩, by omega⟩
  · simp [Value.cells] at hcs
    obtain ⟨rfl, rfl, rfl⟩ := hcs
    simp only [Prod.mk.injEq] at hx
    obtain ⟨rfl, _⟩ := hx
    simp only [if_true] at hmm
    have hmx := (show maxLen = 9223372036854775807 from rfl)
    have hk2 : ∀ x ∈ DataW.weightsAll Try.prog 35 ((List.range len0).map D), x ≤ reachBytes := fun x hx => hk x (by
      rw [DataW.weights, Try.underlying22]
      exact List.mem_cons_of_mem _ (List.mem_append_left _ hx))
    refine ⟨len0, ⟨some a, cap0, rfl, fun j hj => ?_⟩, by omega⟩
    obtain ⟨cs', h1, h2⟩ := hel j (by omega)
    have hD : ∀ x ∈ DataW.weights Try.prog 35 (D j), x ≤ reachBytes := fun x hx => hk2 x (weights_mem15 (List.mem_map.2 ⟨j, List.mem_range.2 hj, rfl⟩) hx)
    rw [cellsO15] at h1
    obtain ⟨_, hlen, hcell⟩ := World.cells?_some h1
    obtain ⟨f0, f1, f2, f3, f4, he, o0, o1, o2, o3, o4, t0, t1, t2, t3, t4⟩ := structO15
    obtain ⟨xs, k', hk', hxy, _, hxl, hf⟩ := DataW.trod_struct he h2
    match xs, hxl, cs', hlen with
    | [y0, y1, y2, y3, y4], _, [v0, v1, v2, v3, v4], _ =>
      have g0 := hf 0 f0 rfl
      have g1 := hf 1 f1 rfl
      have g2 := hf 2 f2 rfl
      have g3 := hf 3 f3 rfl
      have g4 := hf 4 f4 rfl
      simp [o0, t0, cellsB15] at g0
      simp [o1, t1, cellsI] at g1
      simp [o2, t2, cellsI] at g2
      simp [o3, t3, cellsS15] at g3
      simp [o4, t4, cellsS15] at g4
      have e0 := hcell 0 (by omega)
      have e1 := hcell 1 (by omega)
      have e2 := hcell 2 (by omega)
      have e3 := hcell 3 (by omega)
      have e4 := hcell 4 (by omega)
      rw [add_add] at e0 e1 e2 e3 e4
      obtain ⟨b0, hv0, _⟩ := DataW.trod_bool Try.underlying4 g0
      obtain ⟨kd, hv1, _, hw1⟩ := DataW.trod_int Try.underlying3 g1
      obtain ⟨nn, hv2, _, hw2⟩ := DataW.trod_int Try.underlying3 g2
      obtain ⟨ks, hv3, hy3, _⟩ := DataW.trod_string Try.underlying9 g3
      obtain ⟨s, hv4, hy4, _⟩ := DataW.trod_string Try.underlying9 g4
      cases hv0; cases hv1; cases hv2; cases hv3; cases hv4
      have hDj : D j = .agg [y0.1, y1.1, y2.1, y3.1, y4.1] := by simpa using (Prod.mk.inj hxy).1
      have hD0 := hD
      have hs3 : ks.size ≤ 140737488351232 := by
        rw [hDj, hy3, DataW.weights, he] at hD
        simp only [List.map, t0, t1, t2, t3, t4, DataW.weightsEach] at hD
        have := hD ks.data.toList.length (by simp [DataW.weights])
        rw [data_length, reachBytes] at this
        omega
      have hs4 : s.size ≤ 140737488351232 := by
        rw [hDj, hy4, DataW.weights, he] at hD0
        simp only [List.map, t0, t1, t2, t3, t4, DataW.weightsEach] at hD0
        have := hD0 s.data.toList.length (by simp [DataW.weights])
        rw [data_length, reachBytes] at this
        omega
      have hb := block_lt_of_cell e0
      rw [addr_block] at hb
      exact ⟨a, b0, kd, nn, ks, s, rfl, hb, by simpa using e0, by simpa using e1, by simpa using e2, by simpa using e3, by simpa using e4, wf_i64 hw1, wf_i64 hw2, hs3, hs4⟩
end Go.Proofs.Ytkamjpjmdibfgaa
