import Derived.Test.YtdbbemcddhgbcaaGreatDoorCards
import Derived.Test.YtdbbemcddhgbcaaGreatDoorTie
import Derived.WalkKit
import Derived.ProofKit
import Derived.OpenShut
import Derived.Deep.DeepHandedRow
import Derived.Lib.LaidTab
import Derived.Carry
import Derived.ChangeOld
import Derived.Stop.LaidErr
import Derived.Test.YtdbbemcddhgbcaaGreatDoorPpW3
import Derived.Test.YtdbbemcddhgbcaaGreatDoorPpND1
import Derived.Deep.SlicePairs
import Derived.Stop.Joined
import Derived.Lib.SmallJoins
import Derived.Test.YtdbbemcddhgbcaaGreatDoorPpNE2
import Derived.Lib.TrailingZeros
import Derived.Lib.BitFns
namespace Go.Proofs.YtdbbemcddhgbcaaGreatDoor
open Go.ChangeShapes Go.WideShapes Go.ChangeAt Go.RowKit

/-- What was read ahead of the call reads so behind it: nothing old has turned. -/
theorem stays_all {H : Type} {enc : TypeId × Value → H} {P : Program} (hl : laidOutB P = true) {W W' : World} (hb : Below W.heap.size W W') {sp : Nat → Bool} :
    ∀ {ts : List TypeId} {vs : List Value} {ds : List (DataW H)} {p : List MemPlace}, (ts.all fun t => P.readableRec t && decide (t < P.types.size)) = true →
      DataW.TrodAll enc P W 0 (fun _ => true) true ts vs ds p → (∀ x ∈ p, x.block < W.heap.size) → (∀ x ∈ p, sp x.block = true) → DataW.TrodAll enc P W' 0 sp true ts vs ds p
  | [], _, _, _, _, h, _, _ => by obtain ⟨rfl, rfl, rfl⟩ := trodAll_nil h; exact trodAll_mk0
  | t :: ts, _, _, _, ht, h, hlt, hs => by
    obtain ⟨v, vs1, d, ds1, a, b, rfl, rfl, rfl, h1, h2⟩ := trodAll_cons h
    simp only [List.all_cons, Bool.and_eq_true, decide_eq_true_eq] at ht
    refine trodAll_cons_mk (WideElems.Trod_stays hl ht.1.1 ht.1.2 h1 (fun x hx => hb.same (hlt x (by simp [hx]))) (fun x hx => hs x (by simp [hx]))) ?_
    exact stays_all hl hb (by simpa using ht.2) h2 (fun x hx => hlt x (by simp [hx])) (fun x hx => hs x (by simp [hx]))

/-- THE ROW's POST, for a law that returns true and turns nothing that was there. -/
theorem post_true {H : Type} {enc : TypeId × Value → H} {P : Program} {f : Func} {s : ChangeSpec} {W W' : World} {args : Array Value} {ds gs : List (DataW H)} {before : List MemPlace} {bt : TypeId} (hl : laidOutB P = true)
    (hts : (f.params.toList.all fun t => P.readableRec t && decide (t < P.types.size)) = true) (hrt : f.resultTypes = #[bt]) (hbt : P.underlying bt = some .bool)
    (hvs : s.vars = []) (hr : (s.fn H (ds ++ gs)).results = [.lit (.bool true)]) (ha : (s.fn H (ds ++ gs)).args = ds) (hv : (s.fn H (ds ++ gs)).vars = [])
    (hW : DataW.Whole enc P f.params.toList s.vars false W args.toList ds gs before) (hb : Below W.heap.size W W') :
    s.post enc P f false true false false W args (.bool true) W' := by
  have hW' := hW
  have hlt : ∀ x ∈ before, x.block < W.heap.size := fun x hx => by simpa using hW.lt x hx
  obtain ⟨p, q, hA, hV, rfl, _, _⟩ := hW
  rw [hvs] at hV
  obtain ⟨rfl, rfl⟩ := trodVars_none hV
  refine ⟨ds, [], p ++ [], [], p, [], hW', ?_, ?_, ?_, hb.frame _, fun h => by cases h⟩
  · rw [hr, hrt]
    exact trodAll_cons_mk (shut_bool hbt true) trodAll_mk0
  · rw [ha]
    exact stays_all hl hb hts hA (fun x hx => hlt x (by simp [hx])) (fun x hx => by simpa using hlt x (by simp [hx]))
  · rw [hv, hvs]; rfl

theorem own : ownKnob Tryz.prog.godebug = none := by kernel_rfl
theorem laidOut : laidOutB Tryz.prog = true := by kernel_rfl
theorem gRounds : Tryz.prog.globalNamed "scrivener/digest.rounds" = some 11 := by kernel_rfl
theorem gRoundsType : (Tryz.prog.globals[11]?).map (·.type) = some 253 := by kernel_rfl
theorem gStart : Tryz.prog.globalNamed "scrivener/digest.start" = some 12 := by kernel_rfl
theorem gStartType : (Tryz.prog.globals[12]?).map (·.type) = some 206 := by kernel_rfl
theorem cells64 : Tryz.prog.cellsOf 253 = 64 := by kernel_rfl
theorem cells8 : Tryz.prog.cellsOf 206 = 8 := by kernel_rfl
theorem cells1 : Tryz.prog.cellsOf 140 = 1 := by kernel_rfl

def both : List (String × DataW Unit) := [("scrivener/digest.start", Rows.laid_scrivener_digest_start), ("scrivener/digest.rounds", Rows.laid_scrivener_digest_rounds)]
theorem tabs_of {W : World} (h : laidMet Tryz.prog both W) : Tabs W := by
  have h1 : Lib.TabIs Tryz.prog W "scrivener/digest.start" .u32 (Sha.iv.l.map Int.ofNat) :=
    Lib.tabIs_of_head gStart gStartType Tryz.underlying206 Tryz.underlying140 cells1 cells8 (show laidMet Tryz.prog (("scrivener/digest.start", Lib.tabData .u32 (Sha.iv.l.map Int.ofNat)) :: _) W from h)
  have h2 : Lib.TabIs Tryz.prog W "scrivener/digest.rounds" .u32 (Sha.kTab.map Int.ofNat) :=
    Lib.tabIs_of_head gRounds gRoundsType Tryz.underlying253 Tryz.underlying140 cells1 cells64 (show laidMet Tryz.prog (("scrivener/digest.rounds", Lib.tabData .u32 (Sha.kTab.map Int.ofNat)) :: []) W from laidMet.tail h)
  refine ⟨fun j hj => ?_, fun j hj => ?_⟩
  · have := h2.cell gRounds j (by rw [List.length_map]; exact hj)
    rw [this]
    simp [List.getD_eq_getElem?_getD]
    rw [List.getElem?_eq_getElem (show j < Sha.kTab.length from hj)]; simp
  · have := h1.cell gStart j (by rw [List.length_map]; exact hj)
    rw [this]
    simp [List.getD_eq_getElem?_getD]
    rw [List.getElem?_eq_getElem (show j < Sha.iv.l.length from hj)]; simp
/-- A WORLD FOR THE WITNESS: both tables laid. -/
def fillObj (cs : Array Value) : Obj → Obj
  | .cells _ t frozen => .cells cs t frozen
  | o => o
noncomputable def laidWorld (os : Os) : World :=
  { World.holding Tryz.prog os ⟨#[], #[], []⟩ with
    heap := ((World.holding Tryz.prog os ⟨#[], #[], []⟩).heap.modify 11 (fillObj (Sha.kTab.map fun n => Value.int .u32 (Int.ofNat n)).toArray)).modify 12 (fillObj (Sha.iv.l.map fun n => Value.int .u32 (Int.ofNat n)).toArray) }
end Go.Proofs.YtdbbemcddhgbcaaGreatDoor

/- Layer 22: a note among the arguments -/
namespace Go.Proofs.YtdbbemcddhgbcaaGreatDoor
open Go.ChangeShapes Go.WideShapes Go.ChangeAt Go.RowKit Go.Deep
namespace Nt
theorem weights_hd {H : Type} {P : Program} {t : TypeId} {ts : List TypeId} {d : DataW H} {r : List (DataW H)} (h : (DataW.weightsEach P (t :: ts) (d :: r)).all (· ≤ reachBytes) = true) : ∀ x ∈ DataW.weights P t d, x ≤ reachBytes := fun x hx => by
  have := List.all_eq_true.1 h x (by rw [DataW.weightsEach]; exact List.mem_append_left _ hx)
  simpa using this
theorem weights_tl {H : Type} {P : Program} {t : TypeId} {ts : List TypeId} {d : DataW H} {r : List (DataW H)} (h : (DataW.weightsEach P (t :: ts) (d :: r)).all (· ≤ reachBytes) = true) : (DataW.weightsEach P ts r).all (· ≤ reachBytes) = true := by
  rw [List.all_eq_true] at h ⊢
  exact fun x hx => h x (by rw [DataW.weightsEach]; exact List.mem_append_right _ hx)
theorem weights_in {H : Type} {P : Program} {e : TypeId} {d : DataW H} {x : Nat} : ∀ {l : List (DataW H)}, d ∈ l → x ∈ DataW.weights P e d → x ∈ DataW.weightsAll P e l
  | [], h, _ => by cases h
  | f :: r, h, hx => by
    rw [DataW.weightsAll]
    rcases List.mem_cons.1 h with rfl | h
    · exact List.mem_append_left _ hx
    · exact List.mem_append_right _ (weights_in h hx)
theorem wf_i64n {n : Int} (h : (Lit.int .i64 n).wf = true) : -9223372036854775808 ≤ n ∧ n ≤ 9223372036854775807 := by
  simp only [Lit.wf, Bool.and_eq_true, decide_eq_true_eq] at h
  have e1 : IntKind.i64.min = -9223372036854775808 := by decide
  have e2 : IntKind.i64.max = 9223372036854775807 := by decide
  rw [e1, e2] at h
  exact h
theorem add_snd (a : Addr) (j : Nat) : (⟨(a.add j).block, (a.add j).off + 1, none⟩ : Addr) = a.add (j + 1) := by
  unfold Addr.add
  rw [if_neg (Nat.succ_ne_zero j)]
  split
  · rename_i h; subst h; rfl
  · rfl
theorem cellsSt22 : Tryz.prog.cellsOf 9 = 1 := by kernel_rfl
theorem cellsIn22 : Tryz.prog.cellsOf 3 = 1 := by kernel_rfl
theorem cellsSg22 : Tryz.prog.cellsOf 32 = 2 := by kernel_rfl
theorem bytesSg22 : Tryz.prog.bytesOf 32 = 32 := by kernel_rfl
theorem cellsHd22 : Tryz.prog.cellsOf 23 = 2 := by kernel_rfl
theorem cellsNt22 : Tryz.prog.cellsOf 26 = 4 := by kernel_rfl
theorem cellsSl22 : Tryz.prog.cellsOf 24 = 1 := by kernel_rfl
theorem structSg22 : ∃ f0 f1 : Field, Tryz.prog.underlying 32 = some (.struct #[f0, f1]) ∧ f0.offset = 0 ∧ f1.offset = 1 ∧ f0.type = 9 ∧ f1.type = 9 :=
  ⟨_, _, Tryz.underlying32, rfl, rfl, rfl, rfl⟩
theorem structHd22 : ∃ f0 f1 : Field, Tryz.prog.underlying 23 = some (.struct #[f0, f1]) ∧ f0.offset = 0 ∧ f1.offset = 1 ∧ f0.type = 3 ∧ f1.type = 9 :=
  ⟨_, _, Tryz.underlying23, rfl, rfl, rfl, rfl⟩
theorem structNt22 : ∃ f0 f1 f2 : Field, Tryz.prog.underlying 26 = some (.struct #[f0, f1, f2]) ∧ f0.offset = 0 ∧ f1.offset = 1 ∧ f2.offset = 3 ∧ f0.type = 9 ∧ f1.type = 23 ∧ f2.type = 24 :=
  ⟨_, _, _, Tryz.underlying26, rfl, rfl, rfl, rfl, rfl, rfl⟩
set_option maxRecDepth 100000 in
set_option maxHeartbeats 1000000 in
theorem open_sigs22 {W : World} {v : Value} {H : Type} {enc : TypeId × Value → H} {y : DataW H × List MemPlace} {fuel : Nat} (hf : DataW.trod enc Tryz.prog W 0 (fun _ => true) true fuel 24 [v] = some y) (hk : ∀ x ∈ DataW.weights Tryz.prog 24 y.1, x ≤ reachBytes) :
    ∃ a S cap, v = .slice a S.length cap ∧ AtS W a S ∧ AtF W a S ∧ S.length ≤ 4398046510976 ∧ ∀ q ∈ S, q.1.size ≤ 140737488351232 ∧ q.2.size ≤ 140737488351232 := by
  obtain ⟨f0, f1, he, o0, o1, t0, t1⟩ := structSg22
  rcases open_slice_pairs Tryz.underlying24 he cellsSg22 o0 o1 (by rw [t0]; exact cellsSt22) (by rw [t1]; exact cellsSt22) hf with ⟨hcs, hx⟩ | ⟨a, len, cap, m, n, V0, V1, D0, D1, P0, P1, hcs, _, hl, hm, hmm, hx, hel⟩
  · simp only [List.cons.injEq, and_true] at hcs
    subst hcs
    exact ⟨none, [], 0, rfl, AtS.nil _ _, fun j v hv => by simp [sgs] at hv, by simp, fun q hq => by cases hq⟩
  · simp only [List.cons.injEq, and_true] at hcs
    subst hcs
    subst hx
    simp only [if_true] at hmm
    subst hmm
    rw [DataW.weights, Tryz.underlying24] at hk
    simp only [bytesSg22] at hk
    have hr : reachBytes = 140737488351232 := rfl
    have hw : m * 32 ≤ reachBytes := by
      refine hk _ ?_
      have e : ((List.range len).map fun i => (DataW.agg [D0 i, D1 i] : DataW H)).length + ((List.range (m - len)).map fun j => (DataW.agg [D0 (len + j), D1 (len + j)] : DataW H)).length = m := by simp; omega
      rw [e]
      exact List.mem_cons_self
    have each : ∀ j, ∃ q : Sg, j < len → (V0 j = .string q.1 ∧ V1 j = .string q.2 ∧ q.1.size ≤ 140737488351232 ∧ q.2.size ≤ 140737488351232) := fun j => by
      by_cases hj : j < len
      · obtain ⟨_, _, g0, g1⟩ := hel j (by omega)
        rw [t0] at g0
        rw [t1] at g1
        obtain ⟨s0, hv0, hd0, _⟩ := DataW.trod_string Tryz.underlying9 g0
        obtain ⟨s1, hv1, hd1, _⟩ := DataW.trod_string Tryz.underlying9 g1
        have hin : ∀ x ∈ DataW.weights Tryz.prog 32 (DataW.agg [D0 j, D1 j] : DataW H), x ≤ reachBytes := fun x hx => hk x (List.mem_cons_of_mem _ (List.mem_append_left _ (weights_in (List.mem_map.2 ⟨j, List.mem_range.2 hj, rfl⟩) hx)))
        rw [DataW.weights, Tryz.underlying32] at hin
        simp only [Prod.mk.injEq] at hd0 hd1
        rw [hd0.1, hd1.1] at hin
        have w0 : s0.data.toList.length ≤ reachBytes := hin _ (by show _ ∈ DataW.weightsEach Tryz.prog [9, 9] _; simp [DataW.weightsEach, DataW.weights])
        have w1 : s1.data.toList.length ≤ reachBytes := hin _ (by show _ ∈ DataW.weightsEach Tryz.prog [9, 9] _; simp [DataW.weightsEach, DataW.weights])
        rw [data_length, hr] at w0 w1
        simp only [List.cons.injEq, and_true] at hv0 hv1
        exact ⟨(s0, s1), fun _ => ⟨hv0, hv1, w0, w1⟩⟩
      · exact ⟨(⟨#[]⟩, ⟨#[]⟩), fun e => absurd e hj⟩
    obtain ⟨g, hg⟩ := Classical.axiomOfChoice each
    have hlen : ((List.range len).map g).length = len := by simp
    have hat : ∀ j q, ((List.range len).map g)[j]? = some q → j < len ∧ q = g j := fun j q hq => by
      rw [List.getElem?_map, Option.map_eq_some_iff] at hq
      obtain ⟨i, hi, rfl⟩ := hq
      obtain ⟨hj, e⟩ := List.getElem?_eq_some_iff.1 hi
      rw [List.getElem_range] at e
      subst e
      rw [List.length_range] at hj
      exact ⟨hj, rfl⟩
    have hcell : ∀ j, j < len → a.block < W.heap.size ∧ W.cell? (a.add (j * 2)) = some (.string (g j).1) ∧ W.cell? (a.add (j * 2 + 1)) = some (.string (g j).2) := fun j hj => by
      obtain ⟨c0, c1, _, _⟩ := hel j (by omega)
      obtain ⟨e0, e1, _, _⟩ := hg j hj
      rw [e0] at c0
      rw [e1] at c1
      have hb := block_lt_of_cell c0
      rw [adr_block] at hb
      exact ⟨hb, c0, c1⟩
    refine ⟨some a, (List.range len).map g, m, by rw [hlen], fun j q hq => ?_, fun j u hu => ?_, by rw [hlen]; omega, fun q hq => ?_⟩
    · obtain ⟨hj, rfl⟩ := hat j q hq
      obtain ⟨hb, c0, c1⟩ := hcell j hj
      refine ⟨a, rfl, hb, c0, ?_⟩
      rw [add_snd]; exact c1
    · have hj2 : j < len * 2 := by
        have := (List.getElem?_eq_some_iff.1 hu).1
        rw [sgs_len, hlen] at this
        exact this
      have hq : ((List.range len).map g)[j / 2]? = some (g (j / 2)) := by rw [List.getElem?_map, List.getElem?_range (by omega)]; rfl
      obtain ⟨hb, c0, c1⟩ := hcell (j / 2) (by omega)
      have hs := sgs_get hq
      refine ⟨a, rfl, hb, ?_⟩
      rcases Nat.mod_two_eq_zero_or_one j with hp | hp
      · rw [show j / 2 * 2 = j by omega] at c0 hs
        rw [hu] at hs
        rw [c0, hs.1]
      · rw [show j / 2 * 2 + 1 = j by omega] at c1 hs
        rw [hu] at hs
        rw [c1, hs.2]
    · obtain ⟨i, hi, rfl⟩ := List.mem_map.1 hq
      obtain ⟨_, _, w0, w1⟩ := hg i (List.mem_range.1 hi)
      exact ⟨w0, w1⟩
set_option maxRecDepth 100000 in
set_option maxHeartbeats 1000000 in
/-- a note among the arguments -/
theorem open_note22 {H : Type} {enc : TypeId × Value → H} {W : World} {base : Nat} {v : Value} {d : DataW H} {p : List MemPlace}
    (hval : Value.okWide Tryz.prog W .any base 26 v) (hd : DataW.Trod enc Tryz.prog W 0 (fun _ => true) true 26 v d p) (hk : ∀ x ∈ DataW.weights Tryz.prog 26 d, x ≤ reachBytes) :
    ∃ O z R a S cap, v = nv O z R (.slice a S.length cap) ∧ AtS W a S ∧ AtF W a S ∧ S.length ≤ 4398046510976 ∧ (∀ q ∈ S, q.1.size ≤ 140737488351232 ∧ q.2.size ≤ 140737488351232) ∧ O.size ≤ 140737488351232 ∧ R.size ≤ 140737488351232 ∧ -9223372036854775808 ≤ z ∧ z ≤ 9223372036854775807 := by
  obtain ⟨f0, f1, f2, he, o0, o1, o2, t0, t1, t2⟩ := structNt22
  obtain ⟨h0, h1, hh, u0, u1, r0, r1⟩ := structHd22
  obtain ⟨cs, rfl, _⟩ := okWide_struct he hval
  obtain ⟨fuel, hf⟩ := hd
  obtain ⟨xs, k', hk', hxy, hcl, hxl, hff⟩ := DataW.trod_struct he hf
  rw [cellsNt22] at hcl
  have hl4 : cs.toList.length = 4 := hcl
  match xs, hxl, hl : cs.toList, hl4 with
  | [y0, y1, y2], _, [v0, v1, v2, v3], _ =>
    have hcs : (Value.agg cs).cells.toList = [v0, v1, v2, v3] := hl
    rw [hcs] at hff
    have g0 := hff 0 f0 rfl
    have g1 := hff 1 f1 rfl
    have g2 := hff 2 f2 rfl
    simp [o0, t0, cellsSt22] at g0
    simp [o1, t1, cellsHd22] at g1
    simp [o2, t2, cellsSl22] at g2
    obtain ⟨O, hv0, hd0, _⟩ := DataW.trod_string Tryz.underlying9 g0
    obtain ⟨ws, k2, hk2, hwy, hcl2, hwl, hg⟩ := DataW.trod_struct hh g1
    match ws, hwl with
    | [z0, z1], _ =>
      have q0 := hg 0 h0 rfl
      have q1 := hg 1 h1 rfl
      simp [u0, r0, cellsIn22] at q0
      simp [u1, r1, cellsSt22] at q1
      obtain ⟨z, hv1, _, hz⟩ := DataW.trod_int Tryz.underlying3 q0
      obtain ⟨R, hv2, hd2, _⟩ := DataW.trod_string Tryz.underlying9 q1
      simp only [Prod.mk.injEq] at hxy
      have hwy : y1.1 = _ := congrArg Prod.fst hwy
      have hd0 : y0.1 = _ := congrArg Prod.fst hd0
      have hd2 : z1.1 = _ := congrArg Prod.fst hd2
      have hr : reachBytes = 140737488351232 := rfl
      rw [hxy.1, DataW.weights, Tryz.underlying26] at hk
      have hk : ∀ x ∈ DataW.weightsEach Tryz.prog [9, 23, 24] [y0.1, y1.1, y2.1], x ≤ reachBytes := hk
      have hO : O.data.toList.length ≤ reachBytes := hk _ (by rw [DataW.weightsEach, hd0]; exact List.mem_append_left _ (by simp [DataW.weights]))
      have hR : R.data.toList.length ≤ reachBytes := hk _ (by
        rw [DataW.weightsEach, DataW.weightsEach]
        refine List.mem_append_right _ (List.mem_append_left _ ?_)
        rw [hwy, DataW.weights, Tryz.underlying23]
        show _ ∈ DataW.weightsEach Tryz.prog [3, 9] [z0.1, z1.1]
        rw [DataW.weightsEach, DataW.weightsEach, hd2]
        exact List.mem_append_right _ (List.mem_append_left _ (by simp [DataW.weights])))
      obtain ⟨a, S, cap, rfl, hA, hF, hn, hS⟩ := open_sigs22 g2 (fun x hx => hk x (by
        rw [DataW.weightsEach, DataW.weightsEach, DataW.weightsEach]
        exact List.mem_append_right _ (List.mem_append_right _ (List.mem_append_left _ hx))))
      rw [data_length, hr] at hO hR
      simp only [List.cons.injEq, and_true] at hv0 hv1 hv2
      subst hv0 hv1 hv2
      refine ⟨O, z, R, a, S, cap, ?_, hA, hF, hn, hS, hO, hR, wf_i64n hz⟩
      unfold nv
      congr 1
      exact Array.toList_inj.1 hl
end Nt
end Go.Proofs.YtdbbemcddhgbcaaGreatDoor

/- Layer 22: what the laid variables give -/
namespace Go.Proofs.YtdbbemcddhgbcaaGreatDoor
open Go.ChangeShapes Go.WideShapes Go.ChangeAt Go.RowKit
namespace Nt
theorem row_one (a : Addr) : MemPlace.cell a.block a.off ∈ MemPlace.row a 1 := by simp [MemPlace.row]
/-- a listed sentinel: its variable, its object, its text -/
theorem sent_of {P : Program} {n nm : String} {text : List UInt8} {r : List (String × DataW Unit)} {W : World} {g : Nat} {ti tp te ts : TypeId} {ms : Array (String × TypeId)} {f : Field}
    (h : laidMet P ((n, .iface nm (.ptr (.agg [.lit (.string text)]))) :: r) W)
    (hg : P.globalNamed n = some g) (ht : (P.globals[g]?).map (·.type) = some ti) (hi : P.underlying ti = some (.interface ms)) (hrow : ∀ u, P.typeName? 3 u = some nm → u = tp)
    (hp : P.underlying tp = some (.pointer te)) (he : P.underlying te = some (.struct #[f])) (hft : f.type = ts) (hfo : f.offset = 0) (hs : P.underlying ts = some .string) (hc : P.cellsOf te = 1) (hcs : P.cellsOf ts = 1) :
    ∃ (a : Addr) (s : ByteArray), W.cell? ⟨g, 0, none⟩ = some (.iface tp (.pointer (some a))) ∧ W.cell? a = some (.string s) ∧ s.data.toList = text ∧ ∃ c t, W.heap[a.block]? = some (.cells c t (0, 0)) := by
  obtain ⟨ps, ⟨g0, t0, cs0, f0, p0, q0, hg0, ht0, hv0, hd0, _, e0⟩, _, hrows⟩ := h
  obtain rfl := Option.some.inj (hg.symm.trans hg0)
  obtain rfl := Option.some.inj (ht.symm.trans ht0)
  subst e0
  obtain ⟨l0⟩ := cs0
  have ok0 : ∀ u v, l0 = [.iface u v] → Value.okWide P W .any 0 u v := fun u v e => by
    subst e
    exact (hrows g 0 (by simp [MemPlace.row])).2 u v (by simpa using World.var?_cell hg0 hv0 0)
  obtain ⟨a0, s0, rfl, hc0, hs0, hz0, hp0⟩ := errorString_of_trod hi hrow hp he hft hfo hs hc hcs hd0 ok0
  refine ⟨a0, s0, by simpa using World.var?_cell hg0 hv0 0, hc0, hs0, (hrows a0.block a0.off ?_).1⟩
  rw [hp0]
  have := row_one a0
  simp [this]
theorem cellsEs22 : Tryz.prog.cellsOf 244 = 1 := by kernel_rfl
theorem cellsS22 : Tryz.prog.cellsOf 9 = 1 := by kernel_rfl
theorem cellsU22 : Tryz.prog.cellsOf 157 = 1 := by kernel_rfl
theorem cellsT22 : Tryz.prog.cellsOf 184 = 20 := by kernel_rfl
theorem star22 : "*" ++ "errors.errorString" = "*errors.errorString" := by decide
theorem rowEs22 (u : TypeId) (h : Tryz.prog.typeName? 3 u = some "*errors.errorString") : u = 242 :=
  typeName_ptr_named (nm := "errors.errorString") (by rw [star22]; kernel_rfl) (by kernel_rfl) (by decide) u (by rw [star22]; exact h)
theorem gPowT : (Tryz.prog.globals[6]?).map (·.type) = some 184 := by kernel_rfl
theorem structEs22 : ∃ f : Field, Tryz.prog.underlying 244 = some (.struct #[f]) ∧ f.type = 9 ∧ f.offset = 0 := ⟨_, Tryz.underlying244, rfl, rfl⟩
theorem sent22 {n : String} {text : List UInt8} {r : List (String × DataW Unit)} {W : World} {g : Nat} (h : laidMet Tryz.prog ((n, .iface "*errors.errorString" (.ptr (.agg [.lit (.string text)]))) :: r) W) (hg : Tryz.prog.globalNamed n = some g) (ht : (Tryz.prog.globals[g]?).map (·.type) = some 62) :
    ∃ a : Addr, W.cell? ⟨g, 0, none⟩ = some (EV a) ∧ Ob W a ∧ ∃ s : ByteArray, W.cell? a = some (.string s) ∧ s.data.toList = text := by
  obtain ⟨f, he, hft, hfo⟩ := structEs22
  obtain ⟨a, s, h1, h2, h3, h4⟩ := sent_of h hg ht Tryz.underlying62 rowEs22 Tryz.underlying242 he hft hfo Tryz.underlying9 cellsEs22 cellsS22
  exact ⟨a, h1, h4, s, h2, h3⟩
theorem apart22 {W : World} {a b : Addr} {s u : ByteArray} {x y : List UInt8} (ha : W.cell? a = some (.string s)) (hs : s.data.toList = x) (hb : W.cell? b = some (.string u)) (hu : u.data.toList = y) (hne : x ≠ y) : a ≠ b := by
  rintro rfl
  rw [ha] at hb
  have e := Option.some.inj hb
  injection e with e
  exact hne (by rw [← hs, ← hu, e])
theorem gS0 : Tryz.prog.globalNamed "strconv.ErrRange" = some 8 := by kernel_rfl
theorem gT0 : (Tryz.prog.globals[8]?).map (·.type) = some 62 := by kernel_rfl
theorem gS1 : Tryz.prog.globalNamed "strconv.ErrSyntax" = some 7 := by kernel_rfl
theorem gT1 : (Tryz.prog.globals[7]?).map (·.type) = some 62 := by kernel_rfl
theorem gS2 : Tryz.prog.globalNamed "scrivener/note.errForm" = some 4 := by kernel_rfl
theorem gT2 : (Tryz.prog.globals[4]?).map (·.type) = some 62 := by kernel_rfl
theorem gS3 : Tryz.prog.globalNamed "scrivener/note.errField" = some 0 := by kernel_rfl
theorem gT3 : (Tryz.prog.globals[0]?).map (·.type) = some 62 := by kernel_rfl
theorem gS4 : Tryz.prog.globalNamed "scrivener/note.errNone" = some 1 := by kernel_rfl
theorem gT4 : (Tryz.prog.globals[1]?).map (·.type) = some 62 := by kernel_rfl
theorem gS5 : Tryz.prog.globalNamed "scrivener/note.errBad" = some 2 := by kernel_rfl
theorem gT5 : (Tryz.prog.globals[2]?).map (·.type) = some 62 := by kernel_rfl
theorem gS6 : Tryz.prog.globalNamed "scrivener/note.errMany" = some 3 := by kernel_rfl
theorem gT6 : (Tryz.prog.globals[3]?).map (·.type) = some 62 := by kernel_rfl
theorem nw_of {W : World} (h : laidMet Tryz.prog Rows.notePrintsRow.laid W) : ∃ E, Nw W E := by
  have l2 := laidMet.tail (laidMet.tail (show laidMet Tryz.prog (_ :: _ :: _) W from h))
  have hp : Lib.TabIs Tryz.prog W "internal/strconv.uint64pow10" .u64 Lib.pow10Tab :=
    Lib.tabIs_of_head gPow gPowT Tryz.underlying184 Tryz.underlying157 cellsU22 cellsT22 (show laidMet Tryz.prog (("internal/strconv.uint64pow10", Lib.tabData .u64 Lib.pow10Tab) :: _) W from l2)
  have l3 := laidMet.tail l2
  have l4 := laidMet.tail l3
  have l5 := laidMet.tail l4
  have l6 := laidMet.tail l5
  have l7 := laidMet.tail l6
  have l8 := laidMet.tail l7
  have l9 := laidMet.tail l8
  have l10 := laidMet.tail l9
  have l11 := laidMet.tail l10
  obtain ⟨aR, cR, _⟩ := sent22 l3 gS0 gT0
  obtain ⟨aS, cS, _⟩ := sent22 l4 gS1 gT1
  obtain ⟨o, vo, oo, so, co, t9o⟩ := sent22 l7 gS2 gT2
  obtain ⟨f, vf, of, sf, cf, tf⟩ := sent22 l8 gS3 gT3
  obtain ⟨n, vn, on, sn, cn, tn⟩ := sent22 l9 gS4 gT4
  obtain ⟨b, vb, ob, sb, cb, tb⟩ := sent22 l10 gS5 gT5
  obtain ⟨m, vm, om, sm, cm, tm⟩ := sent22 l11 gS6 gT6
  refine ⟨⟨f, n, b, m, o⟩, ⟨hp, vf, vn, vb, vm, vo, of, on, ob, om, oo, ⟨_, cS, .inr ⟨_, _, rfl⟩⟩, ⟨_, cR, .inr ⟨_, _, rfl⟩⟩, ?_, ?_, ?_, ?_, ?_, ?_, ?_, ?_, ?_, ?_⟩⟩
  · exact apart22 cf tf cn tn (by decide)
  · exact apart22 cf tf cb tb (by decide)
  · exact apart22 cf tf cm tm (by decide)
  · exact apart22 cf tf co t9o (by decide)
  · exact apart22 cn tn cb tb (by decide)
  · exact apart22 cn tn cm tm (by decide)
  · exact apart22 cn tn co t9o (by decide)
  · exact apart22 cb tb cm tm (by decide)
  · exact apart22 cb tb co t9o (by decide)
  · exact apart22 cm tm co t9o (by decide)
/-- where new objects lie -/
noncomputable def low22 : Nat := (World.holding Tryz.prog default ⟨#[], #[], []⟩).heap.size
/-- A WORLD FOR THE WITNESS: all that is listed is laid. -/
noncomputable def laidWorld22 (os : Os) : World :=
  let w0 := World.holding Tryz.prog os ⟨#[.cells #[.string ⟨#[118, 97, 108, 117, 101, 32, 111, 117, 116, 32, 111, 102, 32, 114, 97, 110, 103, 101]⟩] 244, .cells #[.string ⟨#[105, 110, 118, 97, 108, 105, 100, 32, 115, 121, 110, 116, 97, 120]⟩] 244, .cells #[.string ⟨#[110, 111, 116, 32, 111, 102, 32, 116, 104, 101, 32, 102, 111, 114, 109, 32, 116, 104, 97, 116, 32, 105, 116, 32, 109, 117, 115, 116, 32, 104, 97, 118, 101]⟩] 244, .cells #[.string ⟨#[97, 32, 102, 105, 101, 108, 100, 32, 116, 104, 97, 116, 32, 109, 97, 121, 32, 110, 111, 116, 32, 98, 101]⟩] 244, .cells #[.string ⟨#[110, 111, 116, 32, 115, 105, 103, 110, 101, 100]⟩] 244, .cells #[.string ⟨#[97, 32, 115, 105, 103, 110, 97, 116, 117, 114, 101, 32, 116, 104, 97, 116, 32, 105, 115, 32, 110, 111, 116, 32, 114, 105, 103, 104, 116]⟩] 244, .cells #[.string ⟨#[109, 111, 114, 101, 32, 115, 105, 103, 110, 97, 116, 117, 114, 101, 115, 32, 116, 104, 97, 110, 32, 116, 104, 101, 114, 101, 32, 109, 97, 121, 32, 98, 101]⟩] 244], #[], []⟩
  { w0 with heap := ((((((((((((w0.heap).modify 9 (fillObj (Lib.deBruijn32tab.map fun n => Value.int .u8 (Int.ofNat n)).toArray)).modify 10 (fillObj (Lib.deBruijn64tab.map fun n => Value.int .u8 (Int.ofNat n)).toArray)).modify 6 (fillObj (Lib.pow10Tab.map fun n => Value.int .u64 n).toArray)).modify 12 (fillObj (Sha.iv.l.map fun n => Value.int .u32 (Int.ofNat n)).toArray)).modify 11 (fillObj (Sha.kTab.map fun n => Value.int .u32 (Int.ofNat n)).toArray)).modify 8 (fillObj #[EV ⟨low22 + 0, 0, none⟩])).modify 7 (fillObj #[EV ⟨low22 + 1, 0, none⟩])).modify 4 (fillObj #[EV ⟨low22 + 2, 0, none⟩])).modify 0 (fillObj #[EV ⟨low22 + 3, 0, none⟩])).modify 1 (fillObj #[EV ⟨low22 + 4, 0, none⟩])).modify 2 (fillObj #[EV ⟨low22 + 5, 0, none⟩])).modify 3 (fillObj #[EV ⟨low22 + 6, 0, none⟩]) }
theorem laid_one (os : Os) : laidMet Tryz.prog Rows.notePrintsRow.laid ((laidWorld22 os).forCall (fun _ _ => 0) ⟨#[], #[], []⟩).memory :=
  laidMet_of_run' 8 (by kernel_rfl) (by kernel_rfl)
end Nt
end Go.Proofs.YtdbbemcddhgbcaaGreatDoor
