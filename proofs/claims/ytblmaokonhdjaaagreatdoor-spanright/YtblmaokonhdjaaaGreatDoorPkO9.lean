import Derived.Test.YtblmaokonhdjaaaGreatDoorPkO2
import Derived.Test.YtblmaokonhdjaaaGreatDoorCards
import Derived.Test.YtblmaokonhdjaaaGreatDoorTie
import Derived.WalkKit
import Derived.ProofKit
import Derived.OpenShut
import Derived.Deep.DeepHandedRow
import Derived.Lib.LaidTab
import Derived.Carry
import Derived.ChangeOld
import Derived.Stop.LaidErr
import Derived.Test.YtblmaokonhdjaaaGreatDoorPkW3
import Derived.SliceStrings
namespace Go.Proofs.YtblmaokonhdjaaaGreatDoor
open Go.RowKit

end Go.Proofs.YtblmaokonhdjaaaGreatDoor

namespace Go.Proofs.YtblmaokonhdjaaaGreatDoor
open Go.RowKit

/-- a list of one's own, and a number, come out -/
def Out2 (w : World) (o : List (List UInt8) × Int) (e : Ending) (w' : World) : Prop := ∃ v, e = .returned (.tuple #[v, .int .i64 o.2]) ∧ Own w' w.heap.size v (svs o.1) ∧ Below w.heap.size w w'
/-- T4 -/
def pathOut (l : List (List UInt8)) (m : Int) : List (List UInt8) × Int := if wrg l = 0 then (if 0 ≤ m ∧ m < l.length then (Tree.path m.toNat l, 0) else ([], 30)) else ([], wrg l)
theorem wrg_le {l : List (List UInt8)} (h : wrg l = 0) : l.length ≤ 4096 := by
  unfold wrg at h
  split at h
  · omega
  · omega
end Go.Proofs.YtblmaokonhdjaaaGreatDoor

namespace Go.Proofs.YtblmaokonhdjaaaGreatDoor
open Go.RowKit

def u8 (c : Int) : UInt8 := UInt8.ofNat (c % 256).toNat
theorem u8_toNat (c : Int) : (((u8 c).toNat : Nat) : Int) = c % 256 := by
  unfold u8
  rw [UInt8.toNat_ofNat']
  omega
/-- the law's leaf of a number -/
def lf (c : Int) : List UInt8 := u8 c :: (List.replicate 30 0 ++ [u8 (c / 256)])
theorem lf_length (c : Int) : (lf c).length = 32 := by simp [lf]
theorem make32 (w : World) : (Instr.makeSlice 36 (.int .i64 32) (.int .i64 32)).run Tryz.prog w = .ok (.slice (some ⟨w.heap.size, 0, none⟩) 32 32) (w.alloc (.cells (bv (List.replicate 32 0)).toArray 5)) := by
  obtain ⟨i0, hi, hz0, hz1, hz2⟩ := info_parts info5'
  have h := run_make (P := Tryz.prog) w 36 5 i0 (.int .u8 0) Tryz.underlying36 hi hz0 .i64 .i64 32 32 (by omega) (by omega) (by rw [hz2]; decide) (by omega)
  rw [hz1] at h
  have e : madeCells (Value.int .u8 0).cells (Int.toNat 32 * 1) = (bv (List.replicate 32 0)).toArray := by
    apply Array.ext'
    have h1 : (madeCells (Value.int .u8 0).cells (Int.toNat 32 * 1)).toList = List.replicate (Int.toNat 32 * 1) (.int .u8 0) := toList_madeCells_one _ _
    rw [h1, bv, List.map_replicate]
    rfl
  rw [e] at h
  exact h
theorem lf_one (c : Int) : (bv (List.replicate 32 0)).toArray.setIfInBounds 0 (.int .u8 (c % 256)) = (bv (u8 c :: List.replicate 31 0)).toArray := by
  rw [← u8_toNat c]; rfl
theorem lf_two (c : Int) : (bv (u8 c :: List.replicate 31 0)).toArray.setIfInBounds 31 (.int .u8 (c / 256 % 256)) = (bv (lf c)).toArray := by
  rw [← u8_toNat (c / 256)]; rfl
set_option maxRecDepth 100000 in
set_option maxHeartbeats 400000 in
theorem lleaf_any (c : Int) (w : World) :
    Calls Tryz.prog 10 #[.int .i64 c] w fun e w' => e = .returned (sv (lf c)) ∧ Below w.heap.size w w' := by
  have hmk := make32 w
  have hh := heap_alloc_new w (.cells (bv (List.replicate 32 0)).toArray 5)
  have hb := (Below.refl w.heap.size w).alloc (Nat.le_refl _) (.cells (bv (List.replicate 32 0)).toArray 5)
  generalize w.alloc (.cells (bv (List.replicate 32 0)).toArray 5) = w1 at *
  obtain ⟨y, _, _, c1⟩ := bv_cell hh 0 (by simp)
  have f1 : w1.frozen? ⟨w.heap.size, 0, none⟩ = false := frozen_of_row _ _ _ _ _ hh
  have hh2 := heap_setCell_same w1 w.heap.size 0 _ _ (.int .u8 (c % 256)) hh
  rw [lf_one] at hh2
  have hb2 := hb.setCell (Nat.le_refl _) (p := ⟨w.heap.size, 0, none⟩) (.int .u8 (c % 256))
  obtain ⟨y2, _, _, c2⟩ := bv_cell hh2 31 (by simp)
  have f2 : (w1.setCell ⟨w.heap.size, 0, none⟩ (.int .u8 (c % 256))).frozen? ⟨w.heap.size, 31, none⟩ = false := frozen_of_row _ _ _ _ _ hh2
  have hh3 := heap_setCell_same _ w.heap.size 31 _ _ (.int .u8 (c / 256 % 256)) hh2
  rw [lf_two] at hh3
  have hb3 := hid (hb2.setCell (Nat.le_refl _) (p := ⟨w.heap.size, 31, none⟩) (.int .u8 (c / 256 % 256)))
  have hcv := run_conv_bytes (P := Tryz.prog) _ 36 9 5 w.heap.size 0 32 32 (lf c) (lf_length c) Tryz.underlying36 Tryz.underlying5 Tryz.underlying9 (rangeAt_of_list hh3 (fun j v hv => by rw [Nat.zero_add]; exact hv))
  generalize lf c = L at *
  clear hh hb hh2 hb2 hh3
  go_enter Tryz.func10, Tryz.ntmps10
  go_wp2
  go_ret
  exact ⟨rfl, hb3.out⟩
end Go.Proofs.YtblmaokonhdjaaaGreatDoor

namespace Go.Proofs.YtblmaokonhdjaaaGreatDoor
open Go.RowKit

theorem sp2 : Tree.sp 2 = 1 := by decide
theorem sp3 : Tree.sp 3 = 2 := by decide
theorem root2 (a b : List UInt8) : Tree.root [a, b] = Tree.nd a b := by
  rw [Tree.root_cut (by simp), show [a, b].length = 2 from rfl, sp2]
  rfl
theorem root3 (a b c : List UInt8) : Tree.root [a, b, c] = Tree.nd (Tree.nd a b) c := by
  rw [Tree.root_cut (by simp), show [a, b, c].length = 3 from rfl, sp3]
  show Tree.nd (Tree.root [a, b]) (Tree.root [c]) = _
  rw [root2, Tree.root_one]
theorem path3 (a b c : List UInt8) : Tree.path 2 [a, b, c] = [Tree.nd a b] := by
  rw [Tree.path_cut (by simp), show [a, b, c].length = 3 from rfl, sp3, if_neg (by omega)]
  show Tree.path 0 [c] ++ [Tree.root [a, b]] = _
  rw [root2, Tree.path_small (by simp)]
  rfl
theorem wrg3 (a b c : List UInt8) (ha : a.length = 32) (hb : b.length = 32) (hc : c.length = 32) : wrg [a, b, c] = 0 := by
  simp [wrg, ha, hb, hc]
theorem at3 (w : World) (a b c : List UInt8) : At (w.alloc (.cells #[sv a, sv b, sv c] 9)) (some ⟨w.heap.size, 0, none⟩) [a, b, c] := fun j p hp => by
  refine ⟨_, rfl, by rw [size_alloc]; exact Nat.lt_succ_self _, ?_⟩
  rw [Addr.add_mid, cell_of_row _ _ _ _ _ _ (heap_alloc_new w _), Nat.zero_add]
  match j, hp with
  | 0, h => obtain rfl := Option.some.inj h; rfl
  | 1, h => obtain rfl := Option.some.inj h; rfl
  | 2, h => obtain rfl := Option.some.inj h; rfl
theorem lleaf_at (c : Int) (L : List UInt8) (h : Hid (lf c = L)) (w : World) : Calls Tryz.prog 10 #[.int .i64 c] w fun e w' => e = .returned (sv L) ∧ Below w.heap.size w w' := by
  have := lleaf_any c w
  rwa [h.out] at this
theorem svS (l : List UInt8) : sv l = .string ⟨l.toArray⟩ := rfl
end Go.Proofs.YtblmaokonhdjaaaGreatDoor

namespace Go.Proofs.YtblmaokonhdjaaaGreatDoor
open Go.ChangeShapes Go.WideShapes Go.ChangeAt Go.RowKit

/-- What was read ahead of the call reads so behind it: nothing old has turned. -/
theorem stays_all {H : Type} {enc : TypeId × Value → H} {P : Program} (hl : laidOutB P = true) {W W' : World} (hb : Below W.heap.size W W') {sp : Nat → Bool} :
    ∀ {ts : List TypeId} {vs : List Value} {ds : List (DataW H)} {p : List MemPlace}, (ts.all fun t => P.readableRec t && decide (t < P.types.size)) = true →
      DataW.TrodAll enc P W 0 (fun _ => true) true ts vs ds p → (∀ x ∈ p, x.block < W.heap.size) → (∀ x ∈ p, sp x.block = true) → DataW.TrodAll enc P W' 0 sp true ts vs ds p
  | [], _, _, _, _, h, _, _ => by obtain ⟨rfl, rfl, rfl⟩ := trodAll_nil h; exact trodAll_mk0
  | t :: ts, _, _, _, ht, h, hlt, hs => by
    obtain ⟨v, vs1, d, ds1, a, b, rfl, rfl, rfl, h1, h2⟩ := trodAll_cons h
    simp only [List.all_cons, Bool.and_eq_true, decide_eq_true_eq] at ht
    refine trodAll_cons_mk (WideElems.Trod_stays hl ht.1.1 ht.1.2 h1 (fun x hx => hb.same (hlt x (by simp [hx]))) (fun x hx => hs x (by simp [hx]))) ?_
    exact stays_all hl hb (by simpa using ht.2) h2 (fun x hx => hlt x (by simp [hx])) (fun x hx => hs x (by simp [hx]))

/-- THE ROW's POST, for a law that returns true and turns nothing that was there. -/
theorem post_true {H : Type} {enc : TypeId × Value → H} {P : Program} {f : Func} {s : ChangeSpec} {W W' : World} {args : Array Value} {ds gs : List (DataW H)} {before : List MemPlace} {bt : TypeId} (hl : laidOutB P = true)
    (hts : (f.params.toList.all fun t => P.readableRec t && decide (t < P.types.size)) = true) (hrt : f.resultTypes = #[bt]) (hbt : P.underlying bt = some .bool)
    (hvs : s.vars = []) (hr : (s.fn H (ds ++ gs)).results = [.lit (.bool true)]) (ha : (s.fn H (ds ++ gs)).args = ds) (hv : (s.fn H (ds ++ gs)).vars = [])
    (hW : DataW.Whole enc P f.params.toList s.vars false W args.toList ds gs before) (hb : Below W.heap.size W W') :
    s.post enc P f false true false false W args (.bool true) W' := by
  have hW' := hW
  have hlt : ∀ x ∈ before, x.block < W.heap.size := fun x hx => by simpa using hW.lt x hx
  obtain ⟨p, q, hA, hV, rfl, _, _⟩ := hW
  rw [hvs] at hV
  obtain ⟨rfl, rfl⟩ := trodVars_none hV
  refine ⟨ds, [], p ++ [], [], p, [], hW', ?_, ?_, ?_, hb.frame _, fun h => by cases h⟩
  · rw [hr, hrt]
    exact trodAll_cons_mk (shut_bool hbt true) trodAll_mk0
  · rw [ha]
    exact stays_all hl hb hts hA (fun x hx => hlt x (by simp [hx])) (fun x hx => by simpa using hlt x (by simp [hx]))
  · rw [hv, hvs]; rfl

theorem own : ownKnob Tryz.prog.godebug = none := by kernel_rfl
theorem laidOut : laidOutB Tryz.prog = true := by kernel_rfl
theorem gRounds : Tryz.prog.globalNamed "scrivener/digest.rounds" = some 3 := by kernel_rfl
theorem gRoundsType : (Tryz.prog.globals[3]?).map (·.type) = some 278 := by kernel_rfl
theorem gStart : Tryz.prog.globalNamed "scrivener/digest.start" = some 4 := by kernel_rfl
theorem gStartType : (Tryz.prog.globals[4]?).map (·.type) = some 256 := by kernel_rfl
theorem cells64 : Tryz.prog.cellsOf 278 = 64 := by kernel_rfl
theorem cells8 : Tryz.prog.cellsOf 256 = 8 := by kernel_rfl
theorem cells1 : Tryz.prog.cellsOf 231 = 1 := by kernel_rfl

def both : List (String × DataW Unit) := [("scrivener/digest.start", Rows.laid_scrivener_digest_start), ("scrivener/digest.rounds", Rows.laid_scrivener_digest_rounds)]
theorem tabs_of {W : World} (h : laidMet Tryz.prog both W) : Tabs W := by
  have h1 : Lib.TabIs Tryz.prog W "scrivener/digest.start" .u32 (Sha.iv.l.map Int.ofNat) :=
    Lib.tabIs_of_head gStart gStartType Tryz.underlying256 Tryz.underlying231 cells1 cells8 (show laidMet Tryz.prog (("scrivener/digest.start", Lib.tabData .u32 (Sha.iv.l.map Int.ofNat)) :: _) W from h)
  have h2 : Lib.TabIs Tryz.prog W "scrivener/digest.rounds" .u32 (Sha.kTab.map Int.ofNat) :=
    Lib.tabIs_of_head gRounds gRoundsType Tryz.underlying278 Tryz.underlying231 cells1 cells64 (show laidMet Tryz.prog (("scrivener/digest.rounds", Lib.tabData .u32 (Sha.kTab.map Int.ofNat)) :: []) W from laidMet.tail h)
  refine ⟨fun j hj => ?_, fun j hj => ?_⟩
  · have := h2.cell gRounds j (by rw [List.length_map]; exact hj)
    rw [this]
    simp [List.getD_eq_getElem?_getD]
    rw [List.getElem?_eq_getElem (show j < Sha.kTab.length from hj)]; simp
  · have := h1.cell gStart j (by rw [List.length_map]; exact hj)
    rw [this]
    simp [List.getD_eq_getElem?_getD]
    rw [List.getElem?_eq_getElem (show j < Sha.iv.l.length from hj)]; simp
/-- A WORLD FOR THE WITNESS: both tables laid. -/
def fillObj (cs : Array Value) : Obj → Obj
  | .cells _ t frozen => .cells cs t frozen
  | o => o
noncomputable def laidWorld (os : Os) : World :=
  { World.holding Tryz.prog os ⟨#[], #[], []⟩ with
    heap := ((World.holding Tryz.prog os ⟨#[], #[], []⟩).heap.modify 3 (fillObj (Sha.kTab.map fun n => Value.int .u32 (Int.ofNat n)).toArray)).modify 4 (fillObj (Sha.iv.l.map fun n => Value.int .u32 (Int.ofNat n)).toArray) }
end Go.Proofs.YtblmaokonhdjaaaGreatDoor

namespace Go.Proofs.YtblmaokonhdjaaaGreatDoor
open Go.ChangeShapes Go.WideShapes Go.ChangeAt Go.RowKit

theorem bulk_one {H : Type} (d : DataW H) : 1 ≤ Rows.uptoBulk d := by
  cases d with
  | lit l => cases l <;> simp [Rows.uptoBulk]
  | _ => simp [Rows.uptoBulk]
theorem small_all {H : Type} {l : List (DataW H)} (h : Rows.uptoSmall H l = true) : Rows.uptoBulkAll l ≤ 1048576 := of_decide_eq_true h
theorem bulk_str {H : Type} (b : List UInt8) : Rows.uptoBulk (DataW.lit (H := H) (.string b)) = b.length + 1 := by simp [Rows.uptoBulk]
theorem bulk_strs {H : Type} (ss : List ByteArray) : Rows.uptoBulkAll (strs (H := H) ss) = total (ss.map (·.data.toList)) + ss.length := by
  induction ss with
  | nil => simp [strs, Rows.uptoBulkAll, total]
  | cons s ss ih =>
    simp only [strs, total, List.map_cons, Rows.uptoBulkAll, bulk_str, List.flatten_cons, List.length_append, List.length_cons] at *
    omega
theorem cellsS : Tryz.prog.cellsOf 9 = 1 := by kernel_rfl
theorem cellsI : Tryz.prog.cellsOf 3 = 1 := by kernel_rfl
theorem bulk_lits {H : Type} (k : IntKind) (zs : List Int) : Rows.uptoBulkAll (lits (H := H) k zs) = zs.length := by
  induction zs with
  | nil => simp [lits, Rows.uptoBulkAll]
  | cons z zs ih =>
    simp only [lits, List.map_cons, Rows.uptoBulkAll, Rows.uptoBulk, List.length_cons] at *
    omega
theorem wf_i64 {n : Int} (h : (Lit.int .i64 n).wf = true) : -9223372036854775808 ≤ n ∧ n ≤ 9223372036854775807 := by
  simp only [Lit.wf, Bool.and_eq_true, decide_eq_true_eq] at h
  have e1 : IntKind.i64.min = -9223372036854775808 := by decide
  have e2 : IntKind.i64.max = 9223372036854775807 := by decide
  rw [e1, e2] at h
  exact h
/-- whole numbers that lie at an address -/
def AtI (w : World) (a : Option Addr) (l : List Int) : Prop := ∀ j p, l[j]? = some p → ∃ x : Addr, a = some x ∧ x.block < w.heap.size ∧ w.cell? (x.add j) = some (.int .i64 p)
set_option maxRecDepth 100000 in
/-- a slice of texts among the arguments -/
theorem open_at {H : Type} {enc : TypeId × Value → H} {W : World} {base : Nat} {v : Value} {d : DataW H} {p : List MemPlace}
    (hval : Value.okWide Tryz.prog W .any base 22 v) (hd : DataW.Trod enc Tryz.prog W 0 (fun _ => true) true 22 v d p) :
    ∃ a l cap, v = .slice a l.length cap ∧ At W a l ∧ l.length ≤ cap ∧ cap ≤ 9223372036854775807 ∧ total l + l.length ≤ Rows.uptoBulk d := by
  obtain ⟨a0, len0, cap0, rfl⟩ := okWide_slice Tryz.underlying22 hval
  obtain ⟨fuel, hf⟩ := hd
  rcases open_strings Tryz.underlying22 Tryz.underlying9 cellsS hf with ⟨hcs, hx⟩ | ⟨a, len, cap, ss, hcs, _, hl, hm, hz, hx, hcell, hsz⟩
  · simp [Value.cells] at hcs
    obtain ⟨rfl, rfl, rfl⟩ := hcs
    exact ⟨none, [], 0, rfl, At.nil _ _, by simp, by omega, by simp [total]⟩
  · simp [Value.cells] at hcs
    obtain ⟨rfl, rfl, rfl⟩ := hcs
    simp only [Prod.mk.injEq] at hx
    obtain ⟨rfl, _⟩ := hx
    simp only [if_true] at hz
    have hlen : ((ss.take len0).map (·.data.toList)).length = len0 := by simp; omega
    refine ⟨some a, (ss.take len0).map (·.data.toList), cap0, by rw [hlen], fun j p hp => ?_, by omega, hm, ?_⟩
    · rw [List.getElem?_map, Option.map_eq_some_iff] at hp
      obtain ⟨s, hs, rfl⟩ := hp
      rw [List.getElem?_take] at hs
      split at hs
      · have hj := (List.getElem?_eq_some_iff.1 hs).1
        have hc := hcell j hj
        rw [List.getD_eq_getElem?_getD, hs] at hc
        refine ⟨a, rfl, ?_, hc⟩
        have := block_lt_of_cell hc
        rwa [addr_block] at this
      · cases hs
    · have h1 := bulk_strs (H := H) (ss.take len0)
      simp only [Rows.uptoBulk, List.length_map]
      omega
set_option maxRecDepth 100000 in
/-- a slice of whole numbers among the arguments -/
theorem open_atI {H : Type} {enc : TypeId × Value → H} {W : World} {base : Nat} {v : Value} {d : DataW H} {p : List MemPlace}
    (hval : Value.okWide Tryz.prog W .any base 32 v) (hd : DataW.Trod enc Tryz.prog W 0 (fun _ => true) true 32 v d p) :
    ∃ a l cap, v = .slice a l.length cap ∧ AtI W a l ∧ l.length ≤ cap ∧ cap ≤ 9223372036854775807 ∧ l.length ≤ Rows.uptoBulk d ∧ ∀ c ∈ l, -9223372036854775808 ≤ c ∧ c ≤ 9223372036854775807 := by
  obtain ⟨a0, len0, cap0, rfl⟩ := okWide_slice Tryz.underlying32 hval
  obtain ⟨fuel, hf⟩ := hd
  rcases open_ints Tryz.underlying32 Tryz.underlying3 cellsI hf with ⟨hcs, hx⟩ | ⟨a, len, cap, zs, hcs, _, hl, hm, hz, hx, hcell, hwf⟩
  · simp [Value.cells] at hcs
    obtain ⟨rfl, rfl, rfl⟩ := hcs
    exact ⟨none, [], 0, rfl, fun j p hp => by simp at hp, by simp, by omega, by simp, fun c hc => by simp at hc⟩
  · simp [Value.cells] at hcs
    obtain ⟨rfl, rfl, rfl⟩ := hcs
    simp only [Prod.mk.injEq] at hx
    obtain ⟨rfl, _⟩ := hx
    simp only [if_true] at hz
    have hlen : (zs.take len0).length = len0 := by simp; omega
    refine ⟨some a, zs.take len0, cap0, by rw [hlen], fun j c hc => ?_, by omega, hm, ?_, fun c hc => wf_i64 (hwf c (List.mem_of_mem_take hc))⟩
    · rw [List.getElem?_take] at hc
      split at hc
      · have hj := (List.getElem?_eq_some_iff.1 hc).1
        have hc' := hcell j hj
        rw [List.getD_eq_getElem?_getD, hc] at hc'
        refine ⟨a, rfl, ?_, hc'⟩
        have := block_lt_of_cell hc'
        rwa [addr_block] at this
      · cases hc
    · have h1 := bulk_lits (H := H) .i64 (zs.take len0)
      simp only [Rows.uptoBulk]
      omega
end Go.Proofs.YtblmaokonhdjaaaGreatDoor


namespace Go.Proofs.YtblmaokonhdjaaaGreatDoor
open Go.RowKit

theorem own_one (w : World) (base : Nat) (r : List UInt8) (hb : base ≤ w.heap.size) : Own (w.alloc (.cells #[sv r] 9)) base (.slice (some ⟨w.heap.size, 0, none⟩) 1 1) (svs [r]) := by
  refine .inr ⟨w.heap.size, 1, rfl, hb, by simp [svs], by simp [maxLen], ?_, ?_, by rw [size_alloc]; omega⟩
  · intro j v hv
    rw [cell_of_row _ _ _ _ _ _ (heap_alloc_new w _), Nat.zero_add]
    simpa [svs] using hv
  · exact there_of_row (heap_alloc_new w _) 0 1 (by simp)
end Go.Proofs.YtblmaokonhdjaaaGreatDoor

namespace Go.Proofs.YtblmaokonhdjaaaGreatDoor
open Go.RowKit

/-- T4 -/
def proofOut (l : List (List UInt8)) (m : Int) : List (List UInt8) × Int := if wrg l = 0 then (if 1 ≤ m ∧ m ≤ l.length then (Tree.proof m.toNat l true, 0) else ([], 31)) else ([], wrg l)
end Go.Proofs.YtblmaokonhdjaaaGreatDoor

namespace Go.Proofs.YtblmaokonhdjaaaGreatDoor
open Go.RowKit

/-- T3 -/
def partOut (l : List (List UInt8)) (b e : Int) : List UInt8 × Int := if wrg l = 0 then (if 0 ≤ b ∧ b ≤ e ∧ e ≤ l.length then (Tree.root ((l.take e.toNat).drop b.toNat), 0) else ([], 30)) else ([], wrg l)
end Go.Proofs.YtblmaokonhdjaaaGreatDoor

namespace Go.Proofs.YtblmaokonhdjaaaGreatDoor
open Go.RowKit

/-- which of n things -/
def pk (c n : Int) : Int := (if c < 0 then -(c + 1) else c) % n
theorem pk_nonneg (c n : Int) (hn : 0 < n) : 0 ≤ pk c n := Int.emod_nonneg _ (by omega)
theorem pk_lt (c n : Int) (hn : 0 < n) : pk c n < n := Int.emod_lt_of_pos _ hn
set_option maxRecDepth 100000 in
set_option maxHeartbeats 400000 in
theorem pick_any (c n : Int) (hc1 : -9223372036854775808 ≤ c) (hc2 : c ≤ 9223372036854775807) (hn : 0 < n) (hn2 : n ≤ 9223372036854775807) (w : World) :
    Calls Tryz.prog 9 #[.int .i64 c, .int .i64 n] w fun e w' => e = .returned (.int .i64 (pk c n)) ∧ w' = w := by
  have hp0 := pk_nonneg c n hn
  have hp1 := pk_lt c n hn
  have hn0 : ¬ n = 0 := by omega
  by_cases h : c < 0
  · have e1 : IntKind.i64.wrap (c + 1) = c + 1 := by rw [IntKind.wrap_i64]; omega
    have e2 : IntKind.i64.wrap (-(c + 1)) = -(c + 1) := by rw [IntKind.wrap_i64]; omega
    have e3 : Int.tmod (-(c + 1)) n = pk c n := by rw [Int.tmod_eq_emod_of_nonneg (by omega), pk, if_pos h]
    have e4 : IntKind.i64.wrap (pk c n) = pk c n := wrap_small _ (by omega) (by omega)
    go_enter Tryz.func9, Tryz.ntmps9
    go_wp2
    go_ret
    exact ⟨rfl, rfl⟩
  · have e3 : Int.tmod c n = pk c n := by rw [Int.tmod_eq_emod_of_nonneg (by omega), pk, if_neg h]
    have e4 : IntKind.i64.wrap (pk c n) = pk c n := wrap_small _ (by omega) (by omega)
    go_enter Tryz.func9, Tryz.ntmps9
    go_wp2
    go_ret
    exact ⟨rfl, rfl⟩


theorem AtI.below {w w' : World} {a : Option Addr} {l : List Int} {B : Nat} (h : AtI w a l) (hb : Below B w w') (hB : w.heap.size ≤ B) : AtI w' a l := fun j p hp => by
  obtain ⟨x, rfl, hx, hc⟩ := h j p hp
  exact ⟨x, rfl, Nat.lt_of_lt_of_le hx hb.size, (hb.cell (p := x.add j) (by rw [addr_block]; omega)).trans hc⟩
theorem AtI.pos {w : World} {a : Option Addr} {l : List Int} (h : AtI w a l) (hl : 0 < l.length) : ∃ x, a = some x := by
  obtain ⟨x, hx, _⟩ := h 0 _ (List.getElem?_eq_getElem hl)
  exact ⟨x, hx⟩
theorem AtI.cell {w : World} {x : Addr} {l : List Int} (h : AtI w (some x) l) (j : Nat) (hj : j < l.length) : w.cell? (x.add j) = some (.int .i64 l[j]) := by
  obtain ⟨y, hy, _, hc⟩ := h j _ (List.getElem?_eq_getElem hj)
  obtain rfl := Option.some.inj hy
  exact hc
def nums (cs : List Int) (k : Nat) : List (List UInt8) := (cs.take k).map lf
theorem nums_succ (cs : List Int) (k : Nat) (h : k < cs.length) : nums cs (k + 1) = nums cs k ++ [lf cs[k]] := by
  rw [nums, nums, List.take_add_one, List.getElem?_eq_getElem h, List.map_append]; rfl
theorem nums_len (cs : List Int) (k : Nat) : (nums cs k).length = min k cs.length := by simp [nums]
theorem nums_hs (cs : List Int) (k : Nat) : Tree.Hs (nums cs k) := fun x hx => by
  simp only [nums, List.mem_map] at hx
  obtain ⟨c, _, rfl⟩ := hx
  exact lf_length c
end Go.Proofs.YtblmaokonhdjaaaGreatDoor
