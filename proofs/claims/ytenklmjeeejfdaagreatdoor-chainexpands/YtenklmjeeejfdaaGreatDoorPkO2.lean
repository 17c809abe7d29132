import Derived.Test.YtenklmjeeejfdaaGreatDoorPkM1
import Derived.Test.YtenklmjeeejfdaaGreatDoorPkR4
import Derived.Lib.Strings
import Derived.Lib.Slices
import Derived.Lib.Small
import Derived.Lib.Walk
import Derived.Lib.BitFns
import Derived.Test.YtenklmjeeejfdaaGreatDoorPkW7
import Derived.Laws.EntriesVeiled
import Derived.Test.YtenklmjeeejfdaaGreatDoorCards
import Derived.Test.YtenklmjeeejfdaaGreatDoorTie
import Derived.WalkKit
import Derived.ProofKit
import Derived.OpenShut
import Derived.Deep.DeepHandedRow
import Derived.Lib.LaidTab
import Derived.Carry
import Derived.ChangeOld
import Derived.Stop.LaidErr
import Derived.SliceStrings
import Derived.Deep.RegionLaw
import Derived.RangeFuncNested
import Derived.RangeFuncBound
import Derived.RangeFuncCalls
import Derived.RangeFuncLeaves
import Derived.Shelf.Abstract
import Derived.Shelf.RegionOpen
import Derived.OwnWalkIn
import Derived.TacticsInMore
import Derived.LoopNIn
import Derived.LoopIn
namespace Go.Proofs.YtenklmjeeejfdaaGreatDoor
open Go.RowKit
theorem bitLen_log : ∀ (f x : Nat), x ≤ f → 1 ≤ x → x < 18446744073709551616 → Lib.bitLen x = x.log2 + 1
  | 0, x, h, h1, _ => by omega
  | f + 1, x, h, h1, h2 => by
    rw [Lib.bitLen_half x (by omega) h2]
    by_cases hx : x = 1
    · subst hx; decide
    · rw [bitLen_log f (x / 2) (by omega) (by omega) (by omega), Nat.log2_def x, if_pos (by omega)]; omega
theorem fold_tab (a b c d : List UInt8) (h : (a.append b).append (c.append d) = Lib.len8tab.data.toList) : ByteArray.mk ((a.append b).append (c.append d)).toArray = Lib.len8tab := by
  rw [h]
theorem tab_get (y : Int) (hb : y.toNat < Lib.len8tab.size) : (((Lib.len8tab[y.toNat]'hb).toNat : Nat) : Int) = Lib.len8 y := by
  unfold Lib.len8
  rw [ByteArray.getElem?_lt' _ _ hb]
  rfl
theorem len_end {x y : Int} (s : Nat) (hx0 : 0 ≤ x) (hx : x < 18446744073709551616) (hs : s ≤ 56) (h : s = 0 ∨ 2 ^ s ≤ x.toNat) (hy : x.toNat / 2 ^ s = y.toNat) (hy0 : 0 ≤ y) (hy2 : y ≤ 255) (hb : y.toNat < Lib.len8tab.size) :
    wrap64 ((s : Int) + wrap64 (((Lib.len8tab[y.toNat]'hb).toNat : Nat) : Int)) = ((Lib.bitLen x.toNat : Nat) : Int) := by
  have h8 := Lib.bitLen_le8' y hy0 hy2
  rw [tab_get y hb, Lib.len8_of y hy0 hy2]
  have e1 : wrap64 ((Lib.bitLen y.toNat : Nat) : Int) = (Lib.bitLen y.toNat : Nat) := by unfold wrap64; omega
  have e2 : wrap64 ((s : Int) + ((Lib.bitLen y.toNat : Nat) : Int)) = (s : Int) + (Lib.bitLen y.toNat : Nat) := by unfold wrap64; omega
  rw [e1, e2]
  rcases h with rfl | h
  · rw [show x.toNat = y.toNat from by simpa using hy]; omega
  · rw [Lib.bitLen_shift s x.toNat h (by omega), hy]; omega
set_option maxRecDepth 100000 in
set_option maxHeartbeats 2000000 in
theorem len64_any (x : Int) (h0 : 0 ≤ x) (hx : x < 18446744073709551616) (w : World) :
    Calls Tryz.prog 128 #[.int .u64 x] w fun e w' => e = .returned (.int .i64 (Lib.bitLen x.toNat : Nat)) ∧ w' = w := by
  have h := Tryz.func128
  unfold Tryz.f128 at h
  rw [fold_tab _ _ _ _ (by decide +kernel)] at h
  go_enter h, Tryz.ntmps128
  clear h
  go_wp2
  all_goals first | (exfalso; have := Lib.len8tab_size; omega) | skip
  all_goals go_ret
  all_goals refine ⟨congrArg Ending.returned (congrArg (Value.int IntKind.i64) ?_), rfl⟩
  all_goals first
    | exact len_end 56 h0 hx (by omega) (.inr (by omega)) (by omega) (by omega) (by omega) _
    | exact len_end 48 h0 hx (by omega) (.inr (by omega)) (by omega) (by omega) (by omega) _
    | exact len_end 40 h0 hx (by omega) (.inr (by omega)) (by omega) (by omega) (by omega) _
    | exact len_end 32 h0 hx (by omega) (.inr (by omega)) (by omega) (by omega) (by omega) _
    | exact len_end 24 h0 hx (by omega) (.inr (by omega)) (by omega) (by omega) (by omega) _
    | exact len_end 16 h0 hx (by omega) (.inr (by omega)) (by omega) (by omega) (by omega) _
    | exact len_end 8 h0 hx (by omega) (.inr (by omega)) (by omega) (by omega) (by omega) _
    | (have e := len_end 0 h0 hx (by omega) (.inl rfl) (by omega) h0 (by omega) (by omega); rw [show ((0 : Nat) : Int) = 0 from rfl, Int.zero_add] at e; exact e)
set_option maxRecDepth 100000 in
set_option maxHeartbeats 2000000 in
theorem lenU_any (x : Int) (h0 : 0 ≤ x) (hx : x < 18446744073709551616) (w : World) :
    Calls Tryz.prog 105 #[.int .u64 x] w fun e w' => e = .returned (.int .i64 (Lib.bitLen x.toNat : Nat)) ∧ w' = w := by
  go_enter Tryz.func105, Tryz.ntmps105
  go_wp2_with (go_at_call 128; refine (len64_any x h0 hx _).mono ?_; rintro e w' ⟨rfl, rfl⟩)
  go_ret
  exact ⟨rfl, rfl⟩
end Go.Proofs.YtenklmjeeejfdaaGreatDoor

namespace Go.Proofs.YtenklmjeeejfdaaGreatDoor
open Go.RowKit
theorem log_le {x : Nat} (h1 : 1 ≤ x) (h : x < 9223372036854775808) : x.log2 ≤ 62 := by
  have := (Nat.log2_lt (n := x) (k := 63) (by omega)).2 h
  omega
theorem wrap_pow {L : Nat} (h : L ≤ 62) : wrap64 ((2 : Int) ^ L) = ((2 ^ L : Nat) : Int) := by
  have := Nat.pow_le_pow_right (n := 2) (by decide) h
  have e : ((2 : Int) ^ L) = ((2 ^ L : Nat) : Int) := by simp
  rw [e]
  generalize 2 ^ L = x at *
  unfold wrap64
  omega
end Go.Proofs.YtenklmjeeejfdaaGreatDoor

namespace Go.Proofs.YtenklmjeeejfdaaGreatDoor
open Go.RowKit
theorem nodeOf_nd (l r : List UInt8) : (nodeOf l r).1 = Tree.nd l r := by unfold nodeOf Tree.nd; split <;> rfl
theorem node_at {l r n : List UInt8} {c : Int} (h : Hid (nodeOf l r = (n, c))) (w : World) (T : Tabs w) :
    Calls Tryz.prog 101 #[sv l, sv r] w fun e w' => e = .returned (.tuple #[sv n, .int .i64 c]) ∧ Below w.heap.size w w' := by
  have := node_any ⟨l.toArray⟩ ⟨r.toArray⟩ w T
  rw [show (ByteArray.mk l.toArray).data.toList = l from rfl, show (ByteArray.mk r.toArray).data.toList = r from rfl, h.out] at this
  exact this
theorem rnode_at {l r n : List UInt8} {c : Int} (h : Hid (nodeOf l r = (n, c))) (w : World) :
    Calls Tryz.prog 94 #[sv l, sv r] w fun e w' => e = .returned (.tuple #[sv n, .int .i64 c]) ∧ Below w.heap.size w w' := by
  have := rnode_any ⟨l.toArray⟩ ⟨r.toArray⟩ w
  rw [show (ByteArray.mk l.toArray).data.toList = l from rfl, show (ByteArray.mk r.toArray).data.toList = r from rfl, h.out] at this
  exact this
theorem emptySize' : (ByteArray.mk #[]).size = 0 := rfl
theorem rsum_nil {D : List UInt8} (hD : Hid (Sha.sha [] = D)) (w : World) :
    Calls Tryz.prog 37 #[.string ⟨#[]⟩] w fun e w' => e = .returned (sv D) ∧ Below w.heap.size w w' := by
  have h := rsum_any ⟨#[]⟩ (by rw [emptySize']; omega) w
  rw [show (ByteArray.mk #[]).data.toList = [] from rfl, hD.out] at h
  exact h
def At (w : World) (a : Option Addr) (l : List (List UInt8)) : Prop := ∀ j p, l[j]? = some p → ∃ x : Addr, a = some x ∧ x.block < w.heap.size ∧ w.cell? (x.add j) = some (sv p)
theorem addr_block (x : Addr) (j : Nat) : (x.add j).block = x.block := by unfold Addr.add; split <;> rfl
theorem addr_zero (x : Addr) : x.add 0 = x := rfl
theorem addr_add (x : Addr) (i j : Nat) : (x.add i).add j = x.add (i + j) := by
  unfold Addr.add
  by_cases hi : i = 0
  · subst hi; simp
  · by_cases hj : j = 0
    · subst hj; simp
    · rw [if_neg hi, if_neg hj, if_neg (by omega)]; simp; omega
theorem At.nil (w : World) (a : Option Addr) : At w a [] := fun j p h => by simp at h
theorem At.below {w w' : World} {a : Option Addr} {l : List (List UInt8)} {B : Nat} (h : At w a l) (hb : Below B w w') (hB : w.heap.size ≤ B) : At w' a l := fun j p hp => by
  obtain ⟨x, rfl, hx, hc⟩ := h j p hp
  exact ⟨x, rfl, Nat.lt_of_lt_of_le hx hb.size, (hb.cell (p := x.add j) (by rw [addr_block]; omega)).trans hc⟩
theorem At.heap {w w' : World} {a : Option Addr} {l : List (List UInt8)} (h : At w a l) (e : w'.heap = w.heap) : At w' a l := fun j p hp => by
  obtain ⟨x, rfl, hx, hc⟩ := h j p hp
  refine ⟨x, rfl, by rw [e]; exact hx, ?_⟩
  rw [← hc]
  exact World.cell?_of_block (w := w) (by rw [e])
theorem At.take {w : World} {a : Option Addr} {l : List (List UInt8)} (h : At w a l) (k : Nat) : At w a (l.take k) := fun j p hp => by
  rw [List.getElem?_take] at hp
  split at hp
  · exact h j p hp
  · cases hp
theorem At.drop {w : World} {x : Addr} {l : List (List UInt8)} (h : At w (some x) l) (k : Nat) : At w (some (x.add k)) (l.drop k) := fun j p hp => by
  rw [List.getElem?_drop] at hp
  obtain ⟨y, hy, hx, hc⟩ := h (k + j) p hp
  obtain rfl := Option.some.inj hy
  exact ⟨_, rfl, by rw [addr_block]; exact hx, by rw [addr_add]; exact hc⟩
theorem At.pos {w : World} {a : Option Addr} {l : List (List UInt8)} (h : At w a l) (hl : 0 < l.length) : ∃ x, a = some x := by
  obtain ⟨x, hx, _⟩ := h 0 _ (List.getElem?_eq_getElem hl)
  exact ⟨x, hx⟩
theorem At.cell {w : World} {x : Addr} {l : List (List UInt8)} (h : At w (some x) l) (j : Nat) (hj : j < l.length) : ∃ s : ByteArray, Hid (s.data.toList = l[j]) ∧ w.cell? (x.add j) = some (.string s) := by
  obtain ⟨y, hy, _, hc⟩ := h j _ (List.getElem?_eq_getElem hj)
  obtain rfl := Option.some.inj hy
  exact ⟨⟨(l[j]).toArray⟩, rfl, hc⟩
end Go.Proofs.YtenklmjeeejfdaaGreatDoor

namespace Go.Proofs.YtenklmjeeejfdaaGreatDoor
open Go.RowKit
def wrg (l : List (List UInt8)) : Int := if 4096 < l.length then 31 else if l.all (·.length == 32) then 0 else 32
theorem all_take (l : List (List UInt8)) (k : Nat) (hk : k < l.length) (h : (l.take k).all (·.length == 32) = true) (h2 : (l[k]).length = 32) : (l.take (k + 1)).all (·.length == 32) = true := by
  rw [List.take_succ_eq_append_getElem hk, List.all_append, h]
  simp [h2]
theorem all_not (l : List (List UInt8)) (k : Nat) (hk : k < l.length) (h2 : ¬ (l[k]).length = 32) : l.all (·.length == 32) = false := by
  rw [List.all_eq_false]
  exact ⟨l[k], List.getElem_mem hk, by simpa using h2⟩
end Go.Proofs.YtenklmjeeejfdaaGreatDoor

namespace Go.Proofs.YtenklmjeeejfdaaGreatDoor.Tree
end Go.Proofs.YtenklmjeeejfdaaGreatDoor.Tree
namespace Go.Proofs.YtenklmjeeejfdaaGreatDoor
open Go.RowKit
def svs (L : List (List UInt8)) : List Value := L.map sv
theorem svs_length (L : List (List UInt8)) : (svs L).length = L.length := by simp [svs]
theorem infoS : (Tryz.prog.info? 9).map (fun i => (i.zero, i.size, i.bytes)) = some (some (.string ⟨#[]⟩), 1, 16) := by kernel_rfl
theorem append_text (w : World) (base : Nat) (v : Value) (L : List (List UInt8)) (p : List UInt8) (hown : Own w base v (svs L)) (hlen : L.length ≤ 2000000) (hbase : base ≤ w.heap.size) :
    ∃ v' w', (Builtin.append_ #[23, 23] 23 #[v, .slice (some ⟨w.heap.size, 0, none⟩) 1 1]).run Tryz.prog (w.alloc (.cells #[sv p] 9)) = .ok v' w' ∧ Own w' base v' (svs (L ++ [p])) ∧ Below base w w' := by
  obtain ⟨i0, hi, hz0, hz1, hz2⟩ := info_parts infoS
  have hsrc : Src Tryz.prog 1 23 (.slice (some ⟨w.heap.size, 0, none⟩) 1 1) 1 [sv p] (w.alloc (.cells #[sv p] 9)) :=
    Src.ofSlice _ Tryz.underlying23 ⟨w.heap.size, 0, none⟩ 1 1 [sv p] (by simp) (fun j u hj => by
      rw [Addr.add_mid, cell_of_row _ _ _ _ _ _ (heap_alloc_new w _), Nat.zero_add]; simpa using hj) (fun u hu => by simp at hu; subst hu; rfl)
  obtain ⟨v', w', h1, h2, h3, h4⟩ := run_append_O (P := Tryz.prog) (w.alloc (.cells #[sv p] 9)) base 23 23 23 9 i0 (.string ⟨#[]⟩) Tryz.underlying23 hi hz0 hz1 rfl v (svs L) (hown.alloc _) _ 1 [sv p] hsrc
    (by rw [svs_length, hz2]; omega) (by rw [svs_length, maxLen]; omega) (by rw [size_alloc]; omega) (fun _ => by omega)
  refine ⟨v', w', h1, by simpa [svs] using h2, ?_⟩
  exact ((Below.refl base w).alloc hbase _).trans (Below.ofGrown h3 hown.ge (by rw [size_alloc]; omega))
end Go.Proofs.YtenklmjeeejfdaaGreatDoor

namespace Go.Proofs.YtenklmjeeejfdaaGreatDoor
open Go.RowKit
def u8 (c : Int) : UInt8 := UInt8.ofNat (c % 256).toNat
end Go.Proofs.YtenklmjeeejfdaaGreatDoor

namespace Go.Proofs.YtenklmjeeejfdaaGreatDoor
open Go.RowKit
theorem svS (l : List UInt8) : sv l = .string ⟨l.toArray⟩ := rfl
end Go.Proofs.YtenklmjeeejfdaaGreatDoor

namespace Go.Proofs.YtenklmjeeejfdaaGreatDoor
open Go.ChangeShapes Go.WideShapes Go.ChangeAt Go.RowKit
theorem stays_all {H : Type} {enc : TypeId × Value → H} {P : Program} (hl : laidOutB P = true) {W W' : World} (hb : Below W.heap.size W W') {sp : Nat → Bool} :
    ∀ {ts : List TypeId} {vs : List Value} {ds : List (DataW H)} {p : List MemPlace}, (ts.all fun t => P.readableRec t && decide (t < P.types.size)) = true →
      DataW.TrodAll enc P W 0 (fun _ => true) true ts vs ds p → (∀ x ∈ p, x.block < W.heap.size) → (∀ x ∈ p, sp x.block = true) → DataW.TrodAll enc P W' 0 sp true ts vs ds p
  | [], _, _, _, _, h, _, _ => by obtain ⟨rfl, rfl, rfl⟩ := trodAll_nil h; exact trodAll_mk0
  | t :: ts, _, _, _, ht, h, hlt, hs => by
    obtain ⟨v, vs1, d, ds1, a, b, rfl, rfl, rfl, h1, h2⟩ := trodAll_cons h
    simp only [List.all_cons, Bool.and_eq_true, decide_eq_true_eq] at ht
    refine trodAll_cons_mk (WideElems.Trod_stays hl ht.1.1 ht.1.2 h1 (fun x hx => hb.same (hlt x (by simp [hx]))) (fun x hx => hs x (by simp [hx]))) ?_
    exact stays_all hl hb (by simpa using ht.2) h2 (fun x hx => hlt x (by simp [hx])) (fun x hx => hs x (by simp [hx]))
theorem post_true {H : Type} {enc : TypeId × Value → H} {P : Program} {f : Func} {s : ChangeSpec} {W W' : World} {args : Array Value} {ds gs : List (DataW H)} {before : List MemPlace} {bt : TypeId} (hl : laidOutB P = true)
    (hts : (f.params.toList.all fun t => P.readableRec t && decide (t < P.types.size)) = true) (hrt : f.resultTypes = #[bt]) (hbt : P.underlying bt = some .bool)
    (hvs : s.vars = []) (hr : (s.fn H (ds ++ gs)).results = [.lit (.bool true)]) (ha : (s.fn H (ds ++ gs)).args = ds) (hv : (s.fn H (ds ++ gs)).vars = [])
    (hW : DataW.Whole enc P f.params.toList s.vars false W args.toList ds gs before) (hb : Below W.heap.size W W') :
    s.post enc P f false true false false W args (.bool true) W' := by
  have hW' := hW
  have hlt : ∀ x ∈ before, x.block < W.heap.size := fun x hx => by simpa using hW.lt x hx
  obtain ⟨p, q, hA, hV, rfl, _, _⟩ := hW
  rw [hvs] at hV
  obtain ⟨rfl, rfl⟩ := trodVars_none hV
  refine ⟨ds, [], p ++ [], [], p, [], hW', ?_, ?_, ?_, hb.frame _, fun h => by cases h⟩
  · rw [hr, hrt]
    exact trodAll_cons_mk (shut_bool hbt true) trodAll_mk0
  · rw [ha]
    exact stays_all hl hb hts hA (fun x hx => hlt x (by simp [hx])) (fun x hx => by simpa using hlt x (by simp [hx]))
  · rw [hv, hvs]; rfl
theorem own : ownKnob Tryz.prog.godebug = none := by kernel_rfl
theorem laidOut : laidOutB Tryz.prog = true := by kernel_rfl
theorem gRounds : Tryz.prog.globalNamed "scrivener/digest.rounds" = some 2 := by kernel_rfl
theorem gRoundsType : (Tryz.prog.globals[2]?).map (·.type) = some 180 := by kernel_rfl
theorem gStart : Tryz.prog.globalNamed "scrivener/digest.start" = some 3 := by kernel_rfl
theorem gStartType : (Tryz.prog.globals[3]?).map (·.type) = some 171 := by kernel_rfl
theorem cells64 : Tryz.prog.cellsOf 180 = 64 := by kernel_rfl
theorem cells8 : Tryz.prog.cellsOf 171 = 8 := by kernel_rfl
theorem cells1 : Tryz.prog.cellsOf 146 = 1 := by kernel_rfl
def both : List (String × DataW Unit) := [("scrivener/digest.start", Rows.laid_scrivener_digest_start), ("scrivener/digest.rounds", Rows.laid_scrivener_digest_rounds)]
theorem tabs_of {W : World} (h : laidMet Tryz.prog both W) : Tabs W := by
  have h1 : Lib.TabIs Tryz.prog W "scrivener/digest.start" .u32 (Sha.iv.l.map Int.ofNat) :=
    Lib.tabIs_of_head gStart gStartType Tryz.underlying171 Tryz.underlying146 cells1 cells8 (show laidMet Tryz.prog (("scrivener/digest.start", Lib.tabData .u32 (Sha.iv.l.map Int.ofNat)) :: _) W from h)
  have h2 : Lib.TabIs Tryz.prog W "scrivener/digest.rounds" .u32 (Sha.kTab.map Int.ofNat) :=
    Lib.tabIs_of_head gRounds gRoundsType Tryz.underlying180 Tryz.underlying146 cells1 cells64 (show laidMet Tryz.prog (("scrivener/digest.rounds", Lib.tabData .u32 (Sha.kTab.map Int.ofNat)) :: []) W from laidMet.tail h)
  refine ⟨fun j hj => ?_, fun j hj => ?_⟩
  · have := h2.cell gRounds j (by rw [List.length_map]; exact hj)
    rw [this]
    simp [List.getD_eq_getElem?_getD]
    rw [List.getElem?_eq_getElem (show j < Sha.kTab.length from hj)]; simp
  · have := h1.cell gStart j (by rw [List.length_map]; exact hj)
    rw [this]
    simp [List.getD_eq_getElem?_getD]
    rw [List.getElem?_eq_getElem (show j < Sha.iv.l.length from hj)]; simp
def fillObj (cs : Array Value) : Obj → Obj
  | .cells _ t frozen => .cells cs t frozen
  | o => o
noncomputable def laidWorld (os : Os) : World :=
  { World.holding Tryz.prog os ⟨#[], #[], []⟩ with
    heap := ((World.holding Tryz.prog os ⟨#[], #[], []⟩).heap.modify 2 (fillObj (Sha.kTab.map fun n => Value.int .u32 (Int.ofNat n)).toArray)).modify 3 (fillObj (Sha.iv.l.map fun n => Value.int .u32 (Int.ofNat n)).toArray) }
end Go.Proofs.YtenklmjeeejfdaaGreatDoor

namespace Go.Proofs.YtenklmjeeejfdaaGreatDoor
open Go.ChangeShapes Go.WideShapes Go.ChangeAt Go.RowKit
theorem cellsS : Tryz.prog.cellsOf 9 = 1 := by kernel_rfl
theorem cellsI : Tryz.prog.cellsOf 3 = 1 := by kernel_rfl
theorem wf_i64 {n : Int} (h : (Lit.int .i64 n).wf = true) : -9223372036854775808 ≤ n ∧ n ≤ 9223372036854775807 := by
  simp only [Lit.wf, Bool.and_eq_true, decide_eq_true_eq] at h
  have e1 : IntKind.i64.min = -9223372036854775808 := by decide
  have e2 : IntKind.i64.max = 9223372036854775807 := by decide
  rw [e1, e2] at h
  exact h
def AtI (w : World) (a : Option Addr) (l : List Int) : Prop := ∀ j p, l[j]? = some p → ∃ x : Addr, a = some x ∧ x.block < w.heap.size ∧ w.cell? (x.add j) = some (.int .i64 p)
end Go.Proofs.YtenklmjeeejfdaaGreatDoor

namespace Go.Proofs.YtenklmjeeejfdaaGreatDoor
open Go.RowKit
def pk (c n : Int) : Int := (if c < 0 then -(c + 1) else c) % n
theorem pk_nonneg (c n : Int) (hn : 0 < n) : 0 ≤ pk c n := Int.emod_nonneg _ (by omega)
theorem pk_lt (c n : Int) (hn : 0 < n) : pk c n < n := Int.emod_lt_of_pos _ hn
set_option maxRecDepth 100000 in
set_option maxHeartbeats 400000 in
theorem pick_any (c n : Int) (hc1 : -9223372036854775808 ≤ c) (hc2 : c ≤ 9223372036854775807) (hn : 0 < n) (hn2 : n ≤ 9223372036854775807) (w : World) :
    Calls Tryz.prog 13 #[.int .i64 c, .int .i64 n] w fun e w' => e = .returned (.int .i64 (pk c n)) ∧ w' = w := by
  have hp0 := pk_nonneg c n hn
  have hp1 := pk_lt c n hn
  have hn0 : ¬ n = 0 := by omega
  by_cases h : c < 0
  · have e1 : IntKind.i64.wrap (c + 1) = c + 1 := by rw [IntKind.wrap_i64]; omega
    have e2 : IntKind.i64.wrap (-(c + 1)) = -(c + 1) := by rw [IntKind.wrap_i64]; omega
    have e3 : Int.tmod (-(c + 1)) n = pk c n := by rw [Int.tmod_eq_emod_of_nonneg (by omega), pk, if_pos h]
    have e4 : IntKind.i64.wrap (pk c n) = pk c n := wrap_small _ (by omega) (by omega)
    go_enter Tryz.func13, Tryz.ntmps13
    go_wp2
    go_ret
    exact ⟨rfl, rfl⟩
  · have e3 : Int.tmod c n = pk c n := by rw [Int.tmod_eq_emod_of_nonneg (by omega), pk, if_neg h]
    have e4 : IntKind.i64.wrap (pk c n) = pk c n := wrap_small _ (by omega) (by omega)
    go_enter Tryz.func13, Tryz.ntmps13
    go_wp2
    go_ret
    exact ⟨rfl, rfl⟩
theorem AtI.below {w w' : World} {a : Option Addr} {l : List Int} {B : Nat} (h : AtI w a l) (hb : Below B w w') (hB : w.heap.size ≤ B) : AtI w' a l := fun j p hp => by
  obtain ⟨x, rfl, hx, hc⟩ := h j p hp
  exact ⟨x, rfl, Nat.lt_of_lt_of_le hx hb.size, (hb.cell (p := x.add j) (by rw [addr_block]; omega)).trans hc⟩
theorem AtI.pos {w : World} {a : Option Addr} {l : List Int} (h : AtI w a l) (hl : 0 < l.length) : ∃ x, a = some x := by
  obtain ⟨x, hx, _⟩ := h 0 _ (List.getElem?_eq_getElem hl)
  exact ⟨x, hx⟩
end Go.Proofs.YtenklmjeeejfdaaGreatDoor

namespace Go.Proofs.YtenklmjeeejfdaaGreatDoor
open Go.RowKit
theorem Own.at {w : World} {base : Nat} {v : Value} {L : List (List UInt8)} (h : Own w base v (svs L)) : ∃ a cap, v = .slice a L.length cap ∧ At w a L ∧ L.length ≤ cap ∧ cap ≤ 9223372036854775807 := by
  rcases h with ⟨rfl, h⟩ | ⟨g, cap, rfl, h1, h2, h3, h4, h5, h6⟩
  · obtain rfl : L = [] := by simpa [svs] using h
    exact ⟨none, 0, rfl, At.nil _ _, by simp, by omega⟩
  · rw [svs_length] at h2
    refine ⟨some ⟨g, 0, none⟩, cap, by rw [svs_length], fun j p hp => ⟨_, rfl, h6, ?_⟩, h2, h3⟩
    rw [Addr.add_mid]
    exact h4 j (sv p) (by simp [svs, hp])
end Go.Proofs.YtenklmjeeejfdaaGreatDoor

namespace Go.Proofs.YtenklmjeeejfdaaGreatDoor.Tree
def cnt (p : Nat) (is : List Nat) : Nat := (is.takeWhile (fun i => decide (i < p))).length
end Go.Proofs.YtenklmjeeejfdaaGreatDoor.Tree
namespace Go.Proofs.YtenklmjeeejfdaaGreatDoor
open Go.RowKit
def ix (is : List Nat) : List Int := is.map fun (i : Nat) => (i : Int)
theorem ix_len (is : List Nat) : (ix is).length = is.length := by simp [ix]
end Go.Proofs.YtenklmjeeejfdaaGreatDoor

namespace Go.Proofs.YtenklmjeeejfdaaGreatDoor
open Go.RowKit
theorem step_append_run {P : Program} {ops : Array Oper} {o : Oper} {a : Act} {w : World} {K : Act → World → Prop} {Q : Exit → Act → World → Prop} {E : Prop}
    (hg : o.guard = none) (s x : Operand) (t : TypeId) (hop : o.op = Op.call { callee := Callee.builtin Builtin.append, args := #[s, x], argTypes := #[t, t] })
    (v1 v2 v' : Value) (w' : World) (hs : a.eval s = v1) (hx : a.eval x = v2) (hrun : (Builtin.append_ #[t, t] o.type #[v1, v2]).run P w = .ok v' w') (hK : K (a.put o.dst v') w') :
    if Region.wanted o (yielded ops a.tmps) = true then Oper.wp P o a w K Q else E := by
  have hw : Region.wanted o (yielded ops a.tmps) = true := by simp [Region.wanted, hg]
  rw [if_pos hw]
  unfold Oper.wp
  simp [execOp, hop, resolve, invoke, builtin, hs, hx, hrun, Result.andThen]
  exact hK
end Go.Proofs.YtenklmjeeejfdaaGreatDoor

namespace Go.Proofs.YtenklmjeeejfdaaGreatDoor
open Go.RowKit
structure OkI (n : Nat) (cs : List Int) : Prop where
  pos : 0 < cs.length
  few : cs.length ≤ 256
  leaf : ∀ (j : Nat) (x : Int), cs[j]? = some x → 0 ≤ x ∧ x < n
  rise : ∀ (j : Nat) (x y : Int), cs[j]? = some x → cs[j + 1]? = some y → x < y
def toN (cs : List Int) : List Nat := cs.map Int.toNat
end Go.Proofs.YtenklmjeeejfdaaGreatDoor

namespace Go.Proofs.YtenklmjeeejfdaaGreatDoor
open Go.RowKit
open Classical in
noncomputable def manyOut (l : List (List UInt8)) (cs : List Int) : List (List UInt8) × Int := if wrg l = 0 then (if OkI l.length cs then (Tree.many (toN cs) 0 l, 0) else ([], 30)) else ([], wrg l)
end Go.Proofs.YtenklmjeeejfdaaGreatDoor

namespace Go.Proofs.YtenklmjeeejfdaaGreatDoor.Tree
def zpF : Nat → Nat → List T → List (Bool × T)
  | 0, _, _ => []
  | f + 1, m, l => if l.length < 2 then [] else
    if m < sp l.length then zpF f m (l.take (sp l.length)) ++ [(true, root (l.drop (sp l.length)))] else zpF f (m - sp l.length) (l.drop (sp l.length)) ++ [(false, root (l.take (sp l.length)))]
def zp (m : Nat) (l : List T) : List (Bool × T) := zpF l.length m l
def up (h : T) (zs : List (Bool × T)) : T := zs.foldl (fun h z => if z.1 then nd h z.2 else nd z.2 h) h
end Go.Proofs.YtenklmjeeejfdaaGreatDoor.Tree

namespace Go.Proofs.YtenklmjeeejfdaaGreatDoor
open Go.RowKit
structure Keep (S : Nat → Prop) (w w' : World) : Prop where
  os : w'.os = w.os
  tape : w'.tape = w.tape
  output : w'.output = w.output
  size : w.heap.size ≤ w'.heap.size
  block : ∀ k, k < w.heap.size → ¬ S k → w'.heap[k]? = w.heap[k]?
theorem Keep.refl (S : Nat → Prop) (w : World) : Keep S w w := ⟨rfl, rfl, rfl, Nat.le_refl _, fun _ _ _ => rfl⟩
theorem Keep.trans {S T : Nat → Prop} {w w1 w2 : World} (h : Keep S w w1) (k : Keep T w1 w2) (hT : ∀ j, j < w.heap.size → T j → S j) : Keep S w w2 :=
  ⟨k.os.trans h.os, k.tape.trans h.tape, k.output.trans h.output, Nat.le_trans h.size k.size, fun i hi hb => (k.block i (Nat.lt_of_lt_of_le hi h.size) (fun e => hb (hT i hi e))).trans (h.block i hi hb)⟩
theorem Keep.mono {S T : Nat → Prop} {w w' : World} (h : Keep S w w') (hT : ∀ j, j < w.heap.size → S j → T j) : Keep T w w' := ⟨h.os, h.tape, h.output, h.size, fun k hk hb => h.block k hk fun e => hb (hT k hk e)⟩
theorem Keep.ofBelow {S : Nat → Prop} {w w' : World} (h : Below w.heap.size w w') : Keep S w w' := ⟨h.os, h.tape, h.output, h.size, fun k hk _ => h.block k hk⟩
theorem Keep.ofSet {S : Nat → Prop} (w : World) (b o : Nat) (v : Value) (hb : S b) : Keep S w (w.setCell ⟨b, o, none⟩ v) :=
  ⟨rfl, rfl, rfl, by simp [World.setCell], fun k _ hs => Below.heap_setCell w _ v k (fun e => hs (e ▸ hb))⟩
theorem Own.keep {S : Nat → Prop} {w w' : World} {base : Nat} {v : Value} {cs : List Value} (h : Own w base v cs) (hb : Keep S w w') (hne : ∀ k, v.ownBlock = some k → ¬ S k) : Own w' base v cs := by
  refine h.kept hb.size fun g hg => hb.block g ?_ (hne g hg)
  rcases h with ⟨rfl, _⟩ | ⟨g', cap, rfl, h1, h2, h3, h4, h5, h6⟩
  · cases hg
  · cases hg; exact h6
end Go.Proofs.YtenklmjeeejfdaaGreatDoor

namespace Go.Proofs.YtenklmjeeejfdaaGreatDoor
open Go.RowKit
structure Mvs (F : Nat → Prop) (w w' : World) (F' : Nat → Prop) : Prop where
  keep : Keep F w w'
  new : ∀ k, F' k → F k ∨ w.heap.size ≤ k
theorem Mvs.trans {F G H : Nat → Prop} {w w1 w2 : World} (h : Mvs F w w1 G) (k : Mvs G w1 w2 H) : Mvs F w w2 H := by
  refine ⟨h.keep.trans k.keep fun j hj hg => ?_, fun j hj => ?_⟩
  · rcases h.new j hg with e | e
    · exact e
    · omega
  · rcases k.new j hj with e | e
    · exact h.new j e
    · exact .inr (Nat.le_trans h.keep.size e)
structure Foot {α : Type} (J : (Nat → Prop) → List α → World → Prop) : Prop where
  keep : ∀ F pre W W' S, J F pre W → Keep S W W' → (∀ k, F k → ¬ S k) → J F pre W'
  lt : ∀ F pre W, J F pre W → ∀ k, F k → k < W.heap.size
theorem Keep.ofPut {S : Nat → Prop} (w : World) (l : Nat) (o : Obj) (hl : S l) : Keep S w (w.putObj l o) :=
  ⟨rfl, rfl, rfl, by rw [World.putObj_size]; exact Nat.le_refl _, fun k _ hs => World.putObj_heap_other (fun e => hs (e ▸ hl))⟩
def IterC {α : Type} (P : Program) (gf : Nat) (lb : Array Value) (encs : α → Array Value) (xs : List α) (C Cw : Nat → Prop) (w : World) : Prop :=
  ∀ (n l : Nat) (J Jx : (Nat → Prop) → List α → World → Prop) (F : Nat → Prop) (W : World), Foot J → Foot Jx → Below w.heap.size w W → (∀ k, F k → ¬ C k) →
    (∀ (F : Nat → Prop) (pre : List α) (x : α) (rest : List α) (W1 : World), J F pre W1 → xs = pre ++ x :: rest → YieldAt Fence.wide (n - 1) P l (encs x) W1 fun e W' =>
      ∃ F', Mvs F W1 W' F' ∧ ((e = .returned (.bool true) ∧ J F' (pre ++ [x]) W') ∨ (e = .returned (.bool false) ∧ Jx F' (pre ++ [x]) W'))) →
    J F [] W →
    CallsIn Fence.wide n P gf (#[.func (.yield l) #[] #[]] ++ lb) W fun e W' => (∃ v, e = .returned v) ∧ ∃ F', Keep (fun k => F k ∨ Cw k) W W' ∧ (∀ k, F' k → F k ∨ W.heap.size ≤ k) ∧ (J F' xs W' ∨ ∃ pre, pre <+: xs ∧ Jx F' pre W')
def footPost {α : Type} (I : (Nat → Prop) → List α → World → Prop) (Ix : Code → (Nat → Prop) → List α → World → Prop) (F : Nat → Prop) (xs : List α) (W : World) : Exit → Act → World → Prop
  | .normal, _, W' => ∃ F', Mvs F W W' F' ∧ I F' xs W'
  | .ret, _, W' => ∃ F', Mvs F W W' F' ∧ Ix .ret F' xs W'
  | .exit id, _, W' => ∃ F', Mvs F W W' F' ∧ Ix (.exit id) F' xs W'
  | .goto t, _, W' => ∃ F', Mvs F W W' F' ∧ Ix (.goto t) F' xs W'
  | .panic _, _, _ => False
  | .outgrown, _, _ => False
structure Aft (F0 C : Nat → Prop) (w W : World) (F : Nat → Prop) (D : Nat) : Prop where
  keep : Keep (fun k => F0 k ∨ C k) w W
  new : ∀ k, F k → F0 k ∨ w.heap.size ≤ k
  mark : W.heap[D]? = some (.deferred (some []))
  hi : w.heap.size ≤ D
  out : ¬ F D
set_option maxHeartbeats 1000000 in
theorem range_foot {α : Type} {P : Program} {n : Nat} {g : Operand} {ps : Array Tmp} {assign body : Code} {Q : Exit → Act → World → Prop} {a : Act} {w : World}
    {gf : Nat} {lb : Array Value} (hg : a.eval g = .func (.func gf) #[] lb) (eg : ∀ args w, (callFunc gf args).run P w = .ok (.enter gf args) w)
    {encs : α → Array Value} {xs : List α} {C Cw : Nat → Prop} (hit : IterC P gf lb encs xs C Cw w) (hps : ∀ x, (encs x).size = ps.size)
    (I : (Nat → Prop) → List α → World → Prop) (Ix : Code → (Nat → Prop) → List α → World → Prop) (hI : Foot I) (hIx : ∀ c, Foot (Ix c))
    (F0 : Nat → Prop) (h0 : I F0 [] w) (hC : ∀ k, F0 k → ¬ C k) (hCl : ∀ k, C k → k < w.heap.size)
    (A : (Nat → Prop) → List α → α → Act → World → Prop) (hA : ∀ x a, Foot (fun F pre W => A F pre x a W))
    (hassign : ∀ (l : Nat) (F : Nat → Prop) (pre : List α) (x : α) (rest : List α) (W : World), I F pre W → xs = pre ++ x :: rest →
      assign.wpIn (Fence.wide.inRound l) (n - 1 - 1) P (Exit.then (fun a₁ W₁ => ∃ F₁, Mvs F W W₁ F₁ ∧ A F₁ pre x a₁ W₁) (fun _ _ _ => False)) { tmps := (ps.zip (encs x)).foldl (fun t (p, v) => t.setIfInBounds p v) a.tmps, defers := [] } W)
    (hbody : ∀ (l : Nat) (F : Nat → Prop) (pre : List α) (x : α) (rest : List α) (a₁ : Act) (W : World), A F pre x a₁ W → xs = pre ++ x :: rest →
      body.wpIn (Fence.wide.inRound l) (n - 1 - 1) P (footPost I Ix F (pre ++ [x]) W) a₁ W)
    (hdone : ∀ (D : Nat) (F : Nat → Prop) (W : World), I F xs W → Aft F0 Cw w W F D → Q .normal { a with defers := { target := .collected D, args := #[] } :: a.defers } W)
    (hstop : ∀ (D : Nat) (c : Code) (F : Nat → Prop) (pre : List α) (W : World), pre <+: xs → Ix c F pre W → Aft F0 Cw w W F D → c.wpIn Fence.wide n P Q { a with defers := { target := .collected D, args := #[] } :: a.defers } W) :
    (Code.rangeFunc g ps assign body).wpIn Fence.wide n P Q a w := by
  refine wpIn_rangeFunc ?_
  intro fn hfn
  obtain ⟨rec, hrec⟩ : ∃ rec : LoopState → Option Code → Loop, rec = fun st pe => { state := st, pending := pe, fn, tmps := a.tmps, params := ps, assign, body, defers := w.heap.size } := ⟨_, rfl⟩
  obtain ⟨W1, hW1⟩ : ∃ W1, (w.alloc (.deferred (some []))).alloc (.loop (rec .ready none)) = W1 := ⟨_, rfl⟩
  have hL1 : W1.heap[w.heap.size + 1]? = some (.loop (rec .ready none)) := by
    rw [← hW1]; have := World.alloc_heap_new (w.alloc (.deferred (some []))) (.loop (rec .ready none)); rwa [World.size_alloc] at this
  have hK1 : W1.heap[w.heap.size]? = some (.deferred (some [])) := by
    rw [← hW1]; exact (Below.heap_alloc _ _ _ (by simp)).trans (World.alloc_heap_new w _)
  have hb1 : Below w.heap.size w W1 := by
    rw [← hW1]; exact ((Below.refl _ w).alloc (Nat.le_refl _) _).alloc (by simp) _
  have hI1 : I F0 [] W1 := hI.keep _ _ _ _ (fun _ => False) h0 (Keep.ofBelow hb1) (fun _ _ e => e)
  have hsz1 : W1.heap.size = w.heap.size + 2 := by rw [← hW1]; simp
  refine ⟨w.heap.size + 1, [{ target := .collected w.heap.size, args := #[] }], W1, { target := .fn (.func gf) lb, args := #[.func (.yield (w.heap.size + 1)) #[] #[]] }, W1, gf,
    #[.func (.yield (w.heap.size + 1)) #[] #[]] ++ lb, W1, ?_, ?_, ?_, ?_, (fun h => by cases h), ?_⟩
  · rw [← hW1, hrec]; exact run_enterLoop_outer _ _ _ _ _
  · simp only [resolve, hg]
    simp [go_sem]
  · intro f' _; trivial
  · simp [invoke, go_sem, eg]
  · obtain ⟨L, hL⟩ : ∃ L, L = w.heap.size + 1 := ⟨_, rfl⟩
    obtain ⟨D, hD⟩ : ∃ D, D = w.heap.size := ⟨_, rfl⟩
    rw [← hL] at hL1
    rw [← hD] at hK1
    have hF0 : ∀ k, F0 k → k < w.heap.size := hI.lt _ _ _ h0
    refine (hit (n - 1) (w.heap.size + 1)
      (fun F pre W => F L ∧ F D ∧ W.heap[L]? = some (.loop (rec .ready none)) ∧ W.heap[D]? = some (.deferred (some [])) ∧ ∃ F1 : Nat → Prop, (∀ k, F1 k → F k) ∧ ¬ F1 L ∧ ¬ F1 D ∧ (∀ k, F k → F1 k ∨ k = L ∨ k = D) ∧ I F1 pre W)
      (fun F pre W => F L ∧ F D ∧ ∃ c, W.heap[L]? = some (.loop (rec .done (some c))) ∧ W.heap[D]? = some (.deferred (some [])) ∧ ∃ F1 : Nat → Prop, (∀ k, F1 k → F k) ∧ ¬ F1 L ∧ ¬ F1 D ∧ (∀ k, F k → F1 k ∨ k = L ∨ k = D) ∧ Ix c F1 pre W)
      (fun k => F0 k ∨ k = L ∨ k = D) W1 ?_ ?_ hb1 ?_ ?_ ?_).mono ?_
    · refine ⟨?_, ?_⟩
      · rintro F pre W W' S ⟨hl, hd, h1, h2, F1, h3, h4, h5, h6, h7⟩ hk hs
        exact ⟨hl, hd, (hk.block L (Array.getElem?_eq_some_iff.1 h1).1 (hs L hl)).trans h1, (hk.block D (Array.getElem?_eq_some_iff.1 h2).1 (hs D hd)).trans h2, F1, h3, h4, h5, h6, hI.keep _ _ _ _ _ h7 hk fun k hk' => hs k (h3 k hk')⟩
      · rintro F pre W ⟨hl, hd, h1, h2, F1, h3, h4, h5, h6, h7⟩ k hk
        rcases h6 k hk with e | rfl | rfl
        · exact hI.lt _ _ _ h7 k e
        · exact (Array.getElem?_eq_some_iff.1 h1).1
        · exact (Array.getElem?_eq_some_iff.1 h2).1
    · refine ⟨?_, ?_⟩
      · rintro F pre W W' S ⟨hl, hd, c, h1, h2, F1, h3, h4, h5, h6, h7⟩ hk hs
        exact ⟨hl, hd, c, (hk.block L (Array.getElem?_eq_some_iff.1 h1).1 (hs L hl)).trans h1, (hk.block D (Array.getElem?_eq_some_iff.1 h2).1 (hs D hd)).trans h2, F1, h3, h4, h5, h6, (hIx c).keep _ _ _ _ _ h7 hk fun k hk' => hs k (h3 k hk')⟩
      · rintro F pre W ⟨hl, hd, c, h1, h2, F1, h3, h4, h5, h6, h7⟩ k hk
        rcases h6 k hk with e | rfl | rfl
        · exact (hIx c).lt _ _ _ h7 k e
        · exact (Array.getElem?_eq_some_iff.1 h1).1
        · exact (Array.getElem?_eq_some_iff.1 h2).1
    · rintro k (e | rfl | rfl) hc
      · exact hC k e hc
      · have := hCl _ hc; omega
      · have := hCl _ hc; omega
    · -- one round
      rintro F pre x rest W ⟨hl, hd, h1, h2, F1, h3, h4, h5, h6, h7⟩ hx
      have hLlt : L < W.heap.size := (Array.getElem?_eq_some_iff.1 h1).1
      have hDlt : D < W.heap.size := (Array.getElem?_eq_some_iff.1 h2).1
      have hy := run_yield (P := P) (args := encs x) h1 (by rw [hrec]; exact hps x)
      rw [hrec] at hy
      refine ⟨fn, _, assign, body, by rw [← hL]; exact hy, roundIn_of_wpIn hfn (wpIn_mono (hassign _ F1 pre x rest W h7 hx) ?_)⟩
      rintro e a₁ W₁ hp
      cases e with
      | normal =>
        obtain ⟨F2, hm1, hA1⟩ := hp
        have nL2 : ¬ F2 L := fun e => by rcases hm1.new L e with e | e; exact h4 e; omega
        have nD2 : ¬ F2 D := fun e => by rcases hm1.new D e with e | e; exact h5 e; omega
        have g1 : W₁.heap[L]? = some (.loop (rec .ready none)) := (hm1.keep.block L hLlt h4).trans h1
        have g2 : W₁.heap[D]? = some (.deferred (some [])) := (hm1.keep.block D hDlt h5).trans h2
        have hLlt1 : L < W₁.heap.size := (Array.getElem?_eq_some_iff.1 g1).1
        have hDlt1 : D < W₁.heap.size := (Array.getElem?_eq_some_iff.1 g2).1
        refine ⟨W₁.putObj L (.loop { rec .ready none with state := .busy }), by rw [← hL]; exact run_beginRound g1 (by rw [hrec]), ?_⟩
        have q1 : (W₁.putObj L (.loop { rec .ready none with state := .busy })).heap[L]? = some (.loop { rec .ready none with state := .busy }) := World.putObj_heap_same hLlt1
        have q2 : (W₁.putObj L (.loop { rec .ready none with state := .busy })).heap[D]? = some (.deferred (some [])) := (World.putObj_heap_other (by omega)).trans g2
        have kp1 : Keep (fun k => k = L) W₁ (W₁.putObj L (.loop { rec .ready none with state := .busy })) := Keep.ofPut _ _ _ rfl
        have hA2 := (hA x a₁).keep _ _ _ _ _ hA1 kp1 (fun k hk e => nL2 (e ▸ hk))
        generalize hW2 : W₁.putObj L (.loop { rec .ready none with state := .busy }) = W₂ at *
        refine wpIn_mono (hbody _ F2 pre x rest a₁ W₂ hA2 hx) ?_
        have fin : ∀ (jump : Option Code) (W3 : World) (F3 : Nat → Prop), Mvs F2 W₂ W3 F3 →
            (Instr.endRound (w.heap.size + 1) jump).run P W3 = .ok (.bool jump.isNone) (W3.putObj L (.loop (rec (if jump.isNone then .ready else .done) jump))) ∧
            (W3.putObj L (.loop (rec (if jump.isNone then .ready else .done) jump))).heap[L]? = some (.loop (rec (if jump.isNone then .ready else .done) jump)) ∧
            (W3.putObj L (.loop (rec (if jump.isNone then .ready else .done) jump))).heap[D]? = some (.deferred (some [])) ∧ ¬ F3 L ∧ ¬ F3 D ∧
            Mvs F W (W3.putObj L (.loop (rec (if jump.isNone then .ready else .done) jump))) (fun k => F3 k ∨ k = L ∨ k = D) := fun jump W3 F3 hm => by
          have r1 := (hm.keep.block L (Array.getElem?_eq_some_iff.1 q1).1 nL2).trans q1
          have r2 := (hm.keep.block D (Array.getElem?_eq_some_iff.1 q2).1 nD2).trans q2
          have := run_endRound (P := P) jump r1
          rw [hrec] at this ⊢
          have nL3 : ¬ F3 L := fun e => by rcases hm.new L e with e | e; exact nL2 e; have := (Array.getElem?_eq_some_iff.1 q1).1; omega
          have nD3 : ¬ F3 D := fun e => by rcases hm.new D e with e | e; exact nD2 e; have := (Array.getElem?_eq_some_iff.1 q2).1; omega
          refine ⟨by rw [← hL]; exact this, World.putObj_heap_same (Array.getElem?_eq_some_iff.1 r1).1, (World.putObj_heap_other (by omega)).trans r2, nL3, nD3, ?_, ?_⟩
          · have e1 : Keep F W W₁ := hm1.keep.mono fun j _ hj => h3 j hj
            have e2 : Keep F W W₂ := e1.trans kp1 fun j _ hj => by rw [hj]; exact hl
            have e3 : Keep F W W3 := e2.trans hm.keep fun j hj hg => by
              rcases hm1.new j hg with e | e
              · exact h3 j e
              · omega
            exact e3.trans (Keep.ofPut (S := fun k => k = L) _ _ _ rfl) fun j _ hj => by rw [hj]; exact hl
          · rintro k (e | rfl | rfl)
            · have hs2 : W₁.heap.size ≤ W₂.heap.size := kp1.size
              have hs1 := hm1.keep.size
              rcases hm.new k e with e | e
              · rcases hm1.new k e with e | e
                · exact .inl (h3 k e)
                · exact .inr e
              · exact .inr (by omega)
            · exact .inl hl
            · exact .inl hd
        rintro e a3 W3 hp
        cases e with
        | normal =>
          obtain ⟨F3, hm, hi3⟩ := hp
          obtain ⟨hr, t1, t2, t3, t4, t5⟩ := fin none W3 F3 hm
          exact ⟨_, _, hr, _, t5, .inl ⟨rfl, .inr (.inl rfl), .inr (.inr rfl), t1, t2, F3, fun k hk => .inl hk, t3, t4, fun k hk => hk, hI.keep _ _ _ _ _ hi3 (Keep.ofPut (S := fun k => k = L) _ _ _ rfl) (fun k hk e => t3 (e ▸ hk))⟩⟩
        | ret =>
          obtain ⟨F3, hm, hi3⟩ := hp
          obtain ⟨hr, t1, t2, t3, t4, t5⟩ := fin (some .ret) W3 F3 hm
          exact ⟨_, _, hr, _, t5, .inr ⟨rfl, .inr (.inl rfl), .inr (.inr rfl), _, t1, t2, F3, fun k hk => .inl hk, t3, t4, fun k hk => hk, (hIx _).keep _ _ _ _ _ hi3 (Keep.ofPut (S := fun k => k = L) _ _ _ rfl) (fun k hk e => t3 (e ▸ hk))⟩⟩
        | exit id =>
          obtain ⟨F3, hm, hi3⟩ := hp
          obtain ⟨hr, t1, t2, t3, t4, t5⟩ := fin (some (.exit id)) W3 F3 hm
          exact ⟨_, _, hr, _, t5, .inr ⟨rfl, .inr (.inl rfl), .inr (.inr rfl), _, t1, t2, F3, fun k hk => .inl hk, t3, t4, fun k hk => hk, (hIx _).keep _ _ _ _ _ hi3 (Keep.ofPut (S := fun k => k = L) _ _ _ rfl) (fun k hk e => t3 (e ▸ hk))⟩⟩
        | goto t =>
          obtain ⟨F3, hm, hi3⟩ := hp
          obtain ⟨hr, t1, t2, t3, t4, t5⟩ := fin (some (.goto t)) W3 F3 hm
          exact ⟨_, _, hr, _, t5, .inr ⟨rfl, .inr (.inl rfl), .inr (.inr rfl), _, t1, t2, F3, fun k hk => .inl hk, t3, t4, fun k hk => hk, (hIx _).keep _ _ _ _ _ hi3 (Keep.ofPut (S := fun k => k = L) _ _ _ rfl) (fun k hk e => t3 (e ▸ hk))⟩⟩
        | panic ch => exact hp.elim
        | outgrown => exact hp.elim
      | exit id => exact hp.elim
      | goto t => exact hp.elim
      | ret => exact hp.elim
      | panic ch => exact hp.elim
      | outgrown => exact hp.elim
    · exact ⟨.inr (.inl rfl), .inr (.inr rfl), hL1, hK1, F0, fun k hk => .inl hk, fun e => by have := hF0 _ e; omega, fun e => by have := hF0 _ e; omega, fun k hk => hk, hI1⟩
    · -- behind the iterator
      rintro e W2 ⟨⟨v, rfl⟩, F', hk, hn, hj⟩
      have aft : ∀ (o : Obj) (F1 : Nat → Prop), (∀ k, F1 k → F' k) → ¬ F1 L → ¬ F1 D → W2.heap[D]? = some (.deferred (some [])) → Aft F0 Cw w (W2.putObj L o) F1 D := fun o F1 h3 h4 h5 h2 => by
        refine ⟨?_, fun k hk' => ?_, (World.putObj_heap_other (by omega)).trans h2, by omega, h5⟩
        · have e1 : Keep (fun k => F0 k ∨ Cw k) w W1 := Keep.ofBelow hb1
          have e2 : Keep (fun k => F0 k ∨ Cw k) w W2 := e1.trans hk fun j hj hg => by
            rcases hg with (e | rfl | rfl) | e
            · exact .inl e
            · omega
            · omega
            · exact .inr e
          exact e2.trans (Keep.ofPut (S := fun k => k = L) _ _ _ rfl) fun j hj he => by rw [he] at hj; omega
        · rcases hn k (h3 k hk') with (e | rfl | rfl) | e
          · exact .inl e
          · exact absurd hk' h4
          · exact absurd hk' h5
          · exact .inr (by omega)
      rcases hj with ⟨hl, hd, h1, h2, F1, h3, h4, h5, h6, h7⟩ | ⟨pre, hpre, hl, hd, c, h1, h2, F1, h3, h4, h5, h6, h7⟩
      · refine ⟨none, W2.putObj L (.loop { rec .ready none with state := .exhausted }), by rw [← hL]; have := run_endLoop (P := P) h1 (by rw [hrec]; simp); rw [hrec] at this ⊢; exact this, ?_⟩
        rw [← hD]
        exact hdone D F1 _ (hI.keep _ _ _ _ _ h7 (Keep.ofPut (S := fun k => k = L) _ _ _ rfl) (fun k hk e => h4 (e ▸ hk))) (aft _ F1 h3 h4 h5 h2)
      · refine ⟨some c, W2.putObj L (.loop { rec .done (some c) with state := .exhausted }), by rw [← hL]; have := run_endLoop (P := P) h1 (by rw [hrec]; simp); rw [hrec] at this ⊢; exact this, ?_⟩
        rw [← hD]
        exact hstop D c F1 pre _ hpre ((hIx c).keep _ _ _ _ _ h7 (Keep.ofPut (S := fun k => k = L) _ _ _ rfl) (fun k hk e => h4 (e ▸ hk))) (aft _ F1 h3 h4 h5 h2)
end Go.Proofs.YtenklmjeeejfdaaGreatDoor
