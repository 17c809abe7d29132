import Derived.Test.YtejdecfpegpgcaaDoorCards
import Derived.Test.YtejdecfpegpgcaaDoorTie
import Derived.WalkKit
import Derived.ProofKit
import Derived.OpenShut
import Derived.Deep.DeepHandedRow
import Derived.Lib.LaidTab
import Derived.Carry
import Derived.ChangeOld
import Derived.Stop.LaidErr
import Derived.Test.YtejdecfpegpgcaaDoorCW3
import Derived.Test.YtejdecfpegpgcaaDoorCR5
import Derived.SliceStrings
import Derived.Test.YtejdecfpegpgcaaDoorCO7
namespace Go.Proofs.YtejdecfpegpgcaaDoor
open Go.ChangeShapes Go.WideShapes Go.ChangeAt Go.RowKit

/-- What was read ahead of the call reads so behind it: nothing old has turned. -/
theorem stays_all {H : Type} {enc : TypeId × Value → H} {P : Program} (hl : laidOutB P = true) {W W' : World} (hb : Below W.heap.size W W') {sp : Nat → Bool} :
    ∀ {ts : List TypeId} {vs : List Value} {ds : List (DataW H)} {p : List MemPlace}, (ts.all fun t => P.readableRec t && decide (t < P.types.size)) = true →
      DataW.TrodAll enc P W 0 (fun _ => true) true ts vs ds p → (∀ x ∈ p, x.block < W.heap.size) → (∀ x ∈ p, sp x.block = true) → DataW.TrodAll enc P W' 0 sp true ts vs ds p
  | [], _, _, _, _, h, _, _ => by obtain ⟨rfl, rfl, rfl⟩ := trodAll_nil h; exact trodAll_mk0
  | t :: ts, _, _, _, ht, h, hlt, hs => by
    obtain ⟨v, vs1, d, ds1, a, b, rfl, rfl, rfl, h1, h2⟩ := trodAll_cons h
    simp only [List.all_cons, Bool.and_eq_true, decide_eq_true_eq] at ht
    refine trodAll_cons_mk (WideElems.Trod_stays hl ht.1.1 ht.1.2 h1 (fun x hx => hb.same (hlt x (by simp [hx]))) (fun x hx => hs x (by simp [hx]))) ?_
    exact stays_all hl hb (by simpa using ht.2) h2 (fun x hx => hlt x (by simp [hx])) (fun x hx => hs x (by simp [hx]))

/-- THE ROW's POST, for a law that returns true and turns nothing that was there. -/
theorem post_true {H : Type} {enc : TypeId × Value → H} {P : Program} {f : Func} {s : ChangeSpec} {W W' : World} {args : Array Value} {ds gs : List (DataW H)} {before : List MemPlace} {bt : TypeId} (hl : laidOutB P = true)
    (hts : (f.params.toList.all fun t => P.readableRec t && decide (t < P.types.size)) = true) (hrt : f.resultTypes = #[bt]) (hbt : P.underlying bt = some .bool)
    (hvs : s.vars = []) (hr : (s.fn H (ds ++ gs)).results = [.lit (.bool true)]) (ha : (s.fn H (ds ++ gs)).args = ds) (hv : (s.fn H (ds ++ gs)).vars = [])
    (hW : DataW.Whole enc P f.params.toList s.vars false W args.toList ds gs before) (hb : Below W.heap.size W W') :
    s.post enc P f false true false false W args (.bool true) W' := by
  have hW' := hW
  have hlt : ∀ x ∈ before, x.block < W.heap.size := fun x hx => by simpa using hW.lt x hx
  obtain ⟨p, q, hA, hV, rfl, _, _⟩ := hW
  rw [hvs] at hV
  obtain ⟨rfl, rfl⟩ := trodVars_none hV
  refine ⟨ds, [], p ++ [], [], p, [], hW', ?_, ?_, ?_, hb.frame _, fun h => by cases h⟩
  · rw [hr, hrt]
    exact trodAll_cons_mk (shut_bool hbt true) trodAll_mk0
  · rw [ha]
    exact stays_all hl hb hts hA (fun x hx => hlt x (by simp [hx])) (fun x hx => by simpa using hlt x (by simp [hx]))
  · rw [hv, hvs]; rfl

theorem own : ownKnob Tryd.prog.godebug = none := by kernel_rfl
theorem laidOut : laidOutB Tryd.prog = true := by kernel_rfl
theorem gRounds : Tryd.prog.globalNamed "scrivener/digest.rounds" = some 2 := by kernel_rfl
theorem gRoundsType : (Tryd.prog.globals[2]?).map (·.type) = some 153 := by kernel_rfl
theorem gStart : Tryd.prog.globalNamed "scrivener/digest.start" = some 3 := by kernel_rfl
theorem gStartType : (Tryd.prog.globals[3]?).map (·.type) = some 141 := by kernel_rfl
theorem cells64 : Tryd.prog.cellsOf 153 = 64 := by kernel_rfl
theorem cells8 : Tryd.prog.cellsOf 141 = 8 := by kernel_rfl
theorem cells1 : Tryd.prog.cellsOf 138 = 1 := by kernel_rfl

def both : List (String × DataW Unit) := [("scrivener/digest.start", Rows.laid_scrivener_digest_start), ("scrivener/digest.rounds", Rows.laid_scrivener_digest_rounds)]
theorem tabs_of {W : World} (h : laidMet Tryd.prog both W) : Tabs W := by
  have h1 : Lib.TabIs Tryd.prog W "scrivener/digest.start" .u32 (Sha.iv.l.map Int.ofNat) :=
    Lib.tabIs_of_head gStart gStartType Tryd.underlying141 Tryd.underlying138 cells1 cells8 (show laidMet Tryd.prog (("scrivener/digest.start", Lib.tabData .u32 (Sha.iv.l.map Int.ofNat)) :: _) W from h)
  have h2 : Lib.TabIs Tryd.prog W "scrivener/digest.rounds" .u32 (Sha.kTab.map Int.ofNat) :=
    Lib.tabIs_of_head gRounds gRoundsType Tryd.underlying153 Tryd.underlying138 cells1 cells64 (show laidMet Tryd.prog (("scrivener/digest.rounds", Lib.tabData .u32 (Sha.kTab.map Int.ofNat)) :: []) W from laidMet.tail h)
  refine ⟨fun j hj => ?_, fun j hj => ?_⟩
  · have := h2.cell gRounds j (by rw [List.length_map]; exact hj)
    rw [this]
    simp [List.getD_eq_getElem?_getD]
    rw [List.getElem?_eq_getElem (show j < Sha.kTab.length from hj)]; simp
  · have := h1.cell gStart j (by rw [List.length_map]; exact hj)
    rw [this]
    simp [List.getD_eq_getElem?_getD]
    rw [List.getElem?_eq_getElem (show j < Sha.iv.l.length from hj)]; simp
/-- A WORLD FOR THE WITNESS: both tables laid. -/
def fillObj (cs : Array Value) : Obj → Obj
  | .cells _ t frozen => .cells cs t frozen
  | o => o
noncomputable def laidWorld (os : Os) : World :=
  { World.holding Tryd.prog os ⟨#[], #[], []⟩ with
    heap := ((World.holding Tryd.prog os ⟨#[], #[], []⟩).heap.modify 2 (fillObj (Sha.kTab.map fun n => Value.int .u32 (Int.ofNat n)).toArray)).modify 3 (fillObj (Sha.iv.l.map fun n => Value.int .u32 (Int.ofNat n)).toArray) }
end Go.Proofs.YtejdecfpegpgcaaDoor

namespace Go.Proofs.YtejdecfpegpgcaaDoor
open Go.ChangeShapes Go.WideShapes Go.ChangeAt Go.RowKit

theorem bulk_one {H : Type} (d : DataW H) : 1 ≤ Rows.uptoBulk d := by
  cases d with
  | lit l => cases l <;> simp [Rows.uptoBulk]
  | _ => simp [Rows.uptoBulk]
theorem small_all {H : Type} {l : List (DataW H)} (h : Rows.uptoSmall H l = true) : Rows.uptoBulkAll l ≤ 1048576 := of_decide_eq_true h
theorem bulk_str {H : Type} (b : List UInt8) : Rows.uptoBulk (DataW.lit (H := H) (.string b)) = b.length + 1 := by simp [Rows.uptoBulk]
theorem bulk_strs {H : Type} (ss : List ByteArray) : Rows.uptoBulkAll (strs (H := H) ss) = total (ss.map (·.data.toList)) + ss.length := by
  induction ss with
  | nil => simp [strs, Rows.uptoBulkAll, total]
  | cons s ss ih =>
    simp only [strs, total, List.map_cons, Rows.uptoBulkAll, bulk_str, List.flatten_cons, List.length_append, List.length_cons] at *
    omega
theorem cellsS : Tryd.prog.cellsOf 9 = 1 := by kernel_rfl
theorem cellsI : Tryd.prog.cellsOf 3 = 1 := by kernel_rfl
theorem bulk_lits {H : Type} (k : IntKind) (zs : List Int) : Rows.uptoBulkAll (lits (H := H) k zs) = zs.length := by
  induction zs with
  | nil => simp [lits, Rows.uptoBulkAll]
  | cons z zs ih =>
    simp only [lits, List.map_cons, Rows.uptoBulkAll, Rows.uptoBulk, List.length_cons] at *
    omega
theorem wf_i64 {n : Int} (h : (Lit.int .i64 n).wf = true) : -9223372036854775808 ≤ n ∧ n ≤ 9223372036854775807 := by
  simp only [Lit.wf, Bool.and_eq_true, decide_eq_true_eq] at h
  have e1 : IntKind.i64.min = -9223372036854775808 := by decide
  have e2 : IntKind.i64.max = 9223372036854775807 := by decide
  rw [e1, e2] at h
  exact h
/-- whole numbers that lie at an address -/
def AtI (w : World) (a : Option Addr) (l : List Int) : Prop := ∀ j p, l[j]? = some p → ∃ x : Addr, a = some x ∧ x.block < w.heap.size ∧ w.cell? (x.add j) = some (.int .i64 p)
set_option maxRecDepth 100000 in
/-- a slice of texts among the arguments -/
theorem open_at {H : Type} {enc : TypeId × Value → H} {W : World} {base : Nat} {v : Value} {d : DataW H} {p : List MemPlace}
    (hval : Value.okWide Tryd.prog W .any base 55 v) (hd : DataW.Trod enc Tryd.prog W 0 (fun _ => true) true 55 v d p) :
    ∃ a l cap, v = .slice a l.length cap ∧ At W a l ∧ l.length ≤ cap ∧ cap ≤ 9223372036854775807 ∧ total l + l.length ≤ Rows.uptoBulk d := by
  obtain ⟨a0, len0, cap0, rfl⟩ := okWide_slice Tryd.underlying55 hval
  obtain ⟨fuel, hf⟩ := hd
  rcases open_strings Tryd.underlying55 Tryd.underlying9 cellsS hf with ⟨hcs, hx⟩ | ⟨a, len, cap, ss, hcs, _, hl, hm, hz, hx, hcell, hsz⟩
  · simp [Value.cells] at hcs
    obtain ⟨rfl, rfl, rfl⟩ := hcs
    exact ⟨none, [], 0, rfl, At.nil _ _, by simp, by omega, by simp [total]⟩
  · simp [Value.cells] at hcs
    obtain ⟨rfl, rfl, rfl⟩ := hcs
    simp only [Prod.mk.injEq] at hx
    obtain ⟨rfl, _⟩ := hx
    simp only [if_true] at hz
    have hlen : ((ss.take len0).map (·.data.toList)).length = len0 := by simp; omega
    refine ⟨some a, (ss.take len0).map (·.data.toList), cap0, by rw [hlen], fun j p hp => ?_, by omega, hm, ?_⟩
    · rw [List.getElem?_map, Option.map_eq_some_iff] at hp
      obtain ⟨s, hs, rfl⟩ := hp
      rw [List.getElem?_take] at hs
      split at hs
      · have hj := (List.getElem?_eq_some_iff.1 hs).1
        have hc := hcell j hj
        rw [List.getD_eq_getElem?_getD, hs] at hc
        refine ⟨a, rfl, ?_, hc⟩
        have := block_lt_of_cell hc
        rwa [addr_block] at this
      · cases hs
    · have h1 := bulk_strs (H := H) (ss.take len0)
      simp only [Rows.uptoBulk, List.length_map]
      omega
set_option maxRecDepth 100000 in
/-- a slice of whole numbers among the arguments -/
theorem open_atI {H : Type} {enc : TypeId × Value → H} {W : World} {base : Nat} {v : Value} {d : DataW H} {p : List MemPlace}
    (hval : Value.okWide Tryd.prog W .any base 41 v) (hd : DataW.Trod enc Tryd.prog W 0 (fun _ => true) true 41 v d p) :
    ∃ a l cap, v = .slice a l.length cap ∧ AtI W a l ∧ l.length ≤ cap ∧ cap ≤ 9223372036854775807 ∧ l.length ≤ Rows.uptoBulk d ∧ ∀ c ∈ l, -9223372036854775808 ≤ c ∧ c ≤ 9223372036854775807 := by
  obtain ⟨a0, len0, cap0, rfl⟩ := okWide_slice Tryd.underlying41 hval
  obtain ⟨fuel, hf⟩ := hd
  rcases open_ints Tryd.underlying41 Tryd.underlying3 cellsI hf with ⟨hcs, hx⟩ | ⟨a, len, cap, zs, hcs, _, hl, hm, hz, hx, hcell, hwf⟩
  · simp [Value.cells] at hcs
    obtain ⟨rfl, rfl, rfl⟩ := hcs
    exact ⟨none, [], 0, rfl, fun j p hp => by simp at hp, by simp, by omega, by simp, fun c hc => by simp at hc⟩
  · simp [Value.cells] at hcs
    obtain ⟨rfl, rfl, rfl⟩ := hcs
    simp only [Prod.mk.injEq] at hx
    obtain ⟨rfl, _⟩ := hx
    simp only [if_true] at hz
    have hlen : (zs.take len0).length = len0 := by simp; omega
    refine ⟨some a, zs.take len0, cap0, by rw [hlen], fun j c hc => ?_, by omega, hm, ?_, fun c hc => wf_i64 (hwf c (List.mem_of_mem_take hc))⟩
    · rw [List.getElem?_take] at hc
      split at hc
      · have hj := (List.getElem?_eq_some_iff.1 hc).1
        have hc' := hcell j hj
        rw [List.getD_eq_getElem?_getD, hc] at hc'
        refine ⟨a, rfl, ?_, hc'⟩
        have := block_lt_of_cell hc'
        rwa [addr_block] at this
      · cases hc
    · have h1 := bulk_lits (H := H) .i64 (zs.take len0)
      simp only [Rows.uptoBulk]
      omega
end Go.Proofs.YtejdecfpegpgcaaDoor


namespace Go.Proofs.YtejdecfpegpgcaaDoor
open Go.RowKit

theorem own_one (w : World) (base : Nat) (r : List UInt8) (hb : base ≤ w.heap.size) : Own (w.alloc (.cells #[sv r] 9)) base (.slice (some ⟨w.heap.size, 0, none⟩) 1 1) (svs [r]) := by
  refine .inr ⟨w.heap.size, 1, rfl, hb, by simp [svs], by simp [maxLen], ?_, ?_, by rw [size_alloc]; omega⟩
  · intro j v hv
    rw [cell_of_row _ _ _ _ _ _ (heap_alloc_new w _), Nat.zero_add]
    simpa [svs] using hv
  · exact there_of_row (heap_alloc_new w _) 0 1 (by simp)
set_option maxRecDepth 100000 in
set_option maxHeartbeats 400000 in
theorem proof1_whole (n : Nat) (a : Option Addr) (cap : Nat) (c : Nat) (w : World) :
    Calls Tryd.prog 97 #[.int .i64 n, .slice a n cap, .bool true, .pointer (some ⟨c, 0, none⟩)] w (Out w []) := by
  go_enter Tryd.func97, Tryd.ntmps97
  go_wp2
  go_ret
  exact ⟨_, rfl, Own.nil _ _, Below.refl _ _⟩
set_option maxRecDepth 100000 in
set_option maxHeartbeats 400000 in
theorem proof1_part (l : List (List UInt8)) (a : Option Addr) (cap : Nat) (c : Nat) (w : World) (hl : l.length ≤ cap) (hc : cap ≤ 9223372036854775807) (hA : At w a l) (T : Tabs w) :
    Calls Tryd.prog 97 #[.int .i64 (l.length : Nat), .slice a l.length cap, .bool false, .pointer (some ⟨c, 0, none⟩)] w (Out w [Tree.root l]) := by
  have h2 := root_any l a cap w hl hc hA T
  generalize Tree.root l = r at *
  generalize l.length = n at *
  go_enter Tryd.func97, Tryd.ntmps97
  go_wp2_with (go_at_call 65; refine h2.mono ?_; rintro e w1 ⟨rfl, hw1⟩; rw [show sv r = Value.string ⟨r.toArray⟩ from rfl])
  go_ret
  exact ⟨_, rfl, own_one w1 w.heap.size r hw1.size, hw1.alloc hw1.size _⟩
set_option maxRecDepth 100000 in
set_option maxHeartbeats 2000000 in
theorem proof1_any : ∀ (f : Nat) (l : List (List UInt8)) (m : Nat) (wh : Bool) (a : Option Addr) (cap c : Nat) (w : World), l.length ≤ f → l.length ≤ 1000000 → 1 ≤ m → m ≤ l.length → l.length ≤ cap → cap ≤ 9223372036854775807 → At w a l → Tabs w →
    w.cell? ⟨c, 0, none⟩ = some (.func (.func 97) #[] #[.pointer (some ⟨c, 0, none⟩)]) →
    Calls Tryd.prog 97 #[.int .i64 m, .slice a l.length cap, .bool wh, .pointer (some ⟨c, 0, none⟩)] w (Out w (Tree.proof m l wh)) := by
  intro f
  induction f with
  | zero => intro l m wh a cap c w hf _ hm1 hm; omega
  | succ f ih =>
    intro l m wh a cap c w hf hM hm1 hm hl hc hA T hcl
    by_cases h1 : m = l.length
    · subst h1
      cases wh
      · rw [Tree.proof_part hm1]; exact proof1_part l a cap c w hl hc hA T
      · rw [Tree.proof_whole hm1]; exact proof1_whole l.length a cap c w
    · obtain ⟨n, hn⟩ : ∃ n, l.length = n := ⟨_, rfl⟩
      have h2 : 2 ≤ n := by omega
      obtain ⟨x, rfl⟩ := hA.pos (by rw [hn]; omega)
      have eL := fun h => Tree.proof_left (m := m) (l := l) (whole := wh) hm1 (by omega) h
      have eR := fun h => Tree.proof_right (m := m) (l := l) (whole := wh) hm1 (by omega) h
      rw [hn] at eL eR hf hl hm h1 hM ⊢
      have k1 := Tree.sp_lt h2
      have k2 := Tree.sp_pos h2
      have hs : spI (n : Int) = ((Tree.sp n : Nat) : Int) := rfl
      generalize Tree.sp n = k at *
      have l1 : (l.take k).length = k := by rw [List.length_take, hn]; omega
      have l2 : (l.drop k).length = n - k := by rw [List.length_drop, hn]
      have n2 : ((m : Int) == (n : Int)) = false := by simp; omega
      have HT := hid T
      have A1 := hid (hA.take k)
      have A2 := hid (hA.drop k)
      by_cases hmk : m ≤ k
      · have b0 : (m : Int) ≤ (k : Int) := by omega
        have e := hid (eL hmk)
        have c1 := fun w' (h : At w' (some x) (l.take k)) => ih (l.take k) m wh (some x) k c w' (by omega) (by omega) (by omega) (by omega) (by omega) (by omega) h
        have c2 := fun w' (h : At w' (some (x.add k)) (l.drop k)) => root_any (l.drop k) (some (x.add k)) (n - k) w' (by omega) (by omega) h
        rw [l1] at c1
        rw [l2] at c2
        have hpl := Tree.proof_length _ m (l.take k) wh (Nat.le_refl _) (by omega) (by omega)
        generalize Tree.proof m (l.take k) wh = L at *
        generalize Tree.root (l.drop k) = r at *
        clear hA ih hn eL eR T
        go_enter Tryd.func97, Tryd.ntmps97
        go_wp2_with (first
          | (go_at_call 94; refine (split_any (n : Int) (by omega) (by omega) _).mono ?_; rintro e w0 ⟨rfl, rfl⟩; rw [hs])
          | (go_at_call 93; refine (cut_any x n cap k k1 hl _).mono ?_; rintro e wc ⟨rfl, hbc, hhc⟩; have hcl0 := cell_below hcl hbc)
          | (go_at_call 97; refine (c1 _ (A1.out.heap hhc) (HT.out.below hbc HT.out.lt) hcl0).mono ?_; rintro e w1 ⟨v1, rfl, hO1, hw1⟩)
          | (go_at_call 65; refine (c2 _ ((A2.out.heap hhc).below hw1 (Nat.le_refl _)) ((HT.out.below hbc HT.out.lt).below hw1 (HT.out.below hbc HT.out.lt).lt)).mono ?_; rintro e w2 ⟨rfl, hw2⟩; obtain ⟨v3, w3, hap, hO3, hb3⟩ := append_text w2 wc.heap.size v1 L r (hO1.below hw2 (Nat.le_refl _)) (by omega) (Nat.le_trans hw1.size hw2.size); rw [show sv r = Value.string ⟨r.toArray⟩ from rfl] at hap ⊢)
          | (at_builtin; go_must (refine Lib.wpList_append_run _ rfl _ _ 55 55 rfl _ _ rfl rfl _ _ hap ?_)))
        go_ret
        exact ⟨_, rfl, by rw [e.out]; exact hO3.mono hbc.size, hbc.trans (((hw1.trans (hw2.mono hw1.size)).trans hb3).mono hbc.size)⟩
      · have b0 : ¬ (m : Int) ≤ (k : Int) := by omega
        have e := hid (eR hmk)
        have c1 := fun w' (h : At w' (some (x.add k)) (l.drop k)) => ih (l.drop k) (m - k) false (some (x.add k)) (n - k) c w' (by omega) (by omega) (by omega) (by omega) (by omega) (by omega) h
        have c2 := fun w' (h : At w' (some x) (l.take k)) => root_any (l.take k) (some x) (k) w' (by omega) (by omega) h
        rw [l2, show ((m - k : Nat) : Int) = (m : Int) - (k : Int) from by omega] at c1
        rw [l1] at c2
        have hpl := Tree.proof_length _ (m - k) (l.drop k) false (Nat.le_refl _) (by omega) (by omega)
        generalize Tree.proof (m - k) (l.drop k) false = L at *
        generalize Tree.root (l.take k) = r at *
        clear hA ih hn eL eR T
        go_enter Tryd.func97, Tryd.ntmps97
        go_wp2_with (first
          | (go_at_call 94; refine (split_any (n : Int) (by omega) (by omega) _).mono ?_; rintro e w0 ⟨rfl, rfl⟩; rw [hs])
          | (go_at_call 93; refine (cut_any x n cap k k1 hl _).mono ?_; rintro e wc ⟨rfl, hbc, hhc⟩; have hcl0 := cell_below hcl hbc)
          | (go_at_call 97; refine (c1 _ (A2.out.heap hhc) (HT.out.below hbc HT.out.lt) hcl0).mono ?_; rintro e w1 ⟨v1, rfl, hO1, hw1⟩)
          | (go_at_call 65; refine (c2 _ ((A1.out.heap hhc).below hw1 (Nat.le_refl _)) ((HT.out.below hbc HT.out.lt).below hw1 (HT.out.below hbc HT.out.lt).lt)).mono ?_; rintro e w2 ⟨rfl, hw2⟩; obtain ⟨v3, w3, hap, hO3, hb3⟩ := append_text w2 wc.heap.size v1 L r (hO1.below hw2 (Nat.le_refl _)) (by omega) (Nat.le_trans hw1.size hw2.size); rw [show sv r = Value.string ⟨r.toArray⟩ from rfl] at hap ⊢)
          | (at_builtin; go_must (refine Lib.wpList_append_run _ rfl _ _ 55 55 rfl _ _ rfl rfl _ _ hap ?_)))
        go_ret
        exact ⟨_, rfl, by rw [e.out]; exact hO3.mono hbc.size, hbc.trans (((hw1.trans (hw2.mono hw1.size)).trans hb3).mono hbc.size)⟩
end Go.Proofs.YtejdecfpegpgcaaDoor

namespace Go.Proofs.YtejdecfpegpgcaaDoor
open Go.RowKit

set_option maxRecDepth 100000 in
set_option maxHeartbeats 400000 in
theorem proof_any (l : List (List UInt8)) (m : Nat) (a : Option Addr) (cap : Nat) (w : World) (hM : l.length ≤ 1000000) (hm1 : 1 ≤ m) (hm : m ≤ l.length) (hl : l.length ≤ cap) (hc : cap ≤ 9223372036854775807) (hA : At w a l) (T : Tabs w) :
    Calls Tryd.prog 68 #[.slice a l.length cap, .int .i64 m] w (Out w (Tree.proof m l true)) := by
  have hmf : ∀ (fn : Fn) (first cap : Array Value) (w : World), (Instr.makeFunc fn first cap).run Tryd.prog w = .ok (.func fn first cap) w := fun _ _ _ _ => rfl
  have hb := (Below.refl w.heap.size w).alloc (Nat.le_refl _) (.cells #[Value.func (.func 97) #[] #[Value.pointer (some ⟨w.heap.size, 0, none⟩)]] 123)
  have hc1 := proof1_any _ l m true a cap w.heap.size (w.alloc (.cells #[Value.func (.func 97) #[] #[Value.pointer (some ⟨w.heap.size, 0, none⟩)]] 123)) (Nat.le_refl _) hM hm1 hm hl hc (hA.below hb (Nat.le_refl _)) (T.below hb T.lt)
    (by rw [cell_of_row _ _ _ _ _ _ (heap_alloc_new w _)]; rfl)
  generalize Tree.proof m l true = L at *
  generalize l.length = n at *
  clear hA T hc hl
  go_enter Tryd.func68, Tryd.ntmps68
  go_wp2_with (go_at_call 97; refine hc1.mono ?_; rintro e w1 ⟨v1, rfl, hO1, hw1⟩)
  go_ret
  exact ⟨_, rfl, hO1.mono hb.size, hb.trans (hw1.mono (by rw [size_alloc]; omega))⟩
/-- T4 -/
def proofOut (l : List (List UInt8)) (m : Int) : List (List UInt8) × Int := if wrg l = 0 then (if 1 ≤ m ∧ m ≤ l.length then (Tree.proof m.toNat l true, 0) else ([], 31)) else ([], wrg l)
set_option maxRecDepth 100000 in
set_option maxHeartbeats 400000 in
theorem Proof_any (l : List (List UInt8)) (m : Int) (a : Option Addr) (cap : Nat) (w : World) (hl : l.length ≤ cap) (hc : cap ≤ 9223372036854775807) (hA : At w a l) (T : Tabs w) :
    Calls Tryd.prog 34 #[.slice a l.length cap, .int .i64 m] w (Out2 w (proofOut l m)) := by
  have h1 := check_any l a cap w (by omega) hA
  by_cases h : wrg l = 0
  · have h4 := wrg_le h
    rw [h] at h1
    by_cases hm : 1 ≤ m ∧ m ≤ l.length
    · have ho : proofOut l m = (Tree.proof m.toNat l true, 0) := by rw [proofOut, if_pos h, if_pos hm]
      rw [ho]
      have h2 := proof_any l m.toNat a cap w (by omega) (by omega) (by omega) hl hc hA T
      rw [Int.toNat_of_nonneg (show 0 ≤ m by omega)] at h2
      generalize Tree.proof m.toNat l true = L at *
      generalize l.length = n at *
      obtain ⟨b1, b2⟩ := hm
      have b3 : ¬ (n : Int) < m := by omega
      have b4 : ¬ m < 1 := by omega
      clear h hA ho
      go_enter Tryd.func34, Tryd.ntmps34
      go_wp2_with (first
        | (go_at_call 64; refine h1.mono ?_; rintro e w1 ⟨rfl, rfl⟩)
        | (go_at_call 68; refine h2.mono ?_; rintro e w2 ⟨v2, rfl, hO2, hw2⟩))
      go_ret2
      exact ⟨_, rfl, hO2, hw2⟩
    · have ho : proofOut l m = ([], 31) := by rw [proofOut, if_pos h, if_neg hm]
      rw [ho]
      generalize l.length = n at *
      clear h hA ho
      by_cases b4 : m < 1
      · clear hm
        go_enter Tryd.func34, Tryd.ntmps34
        go_wp2_with (go_at_call 64; refine h1.mono ?_; rintro e w1 ⟨rfl, rfl⟩)
        go_ret2
        exact ⟨_, rfl, Own.nil _ _, Below.refl _ _⟩
      · have b3 : (n : Int) < m := by omega
        clear hm
        go_enter Tryd.func34, Tryd.ntmps34
        go_wp2_with (go_at_call 64; refine h1.mono ?_; rintro e w1 ⟨rfl, rfl⟩)
        go_ret2
        exact ⟨_, rfl, Own.nil _ _, Below.refl _ _⟩
  · have ho : proofOut l m = ([], wrg l) := by rw [proofOut, if_neg h]
    rw [ho]
    generalize wrg l = z at *
    generalize l.length = n at *
    have b0 : (z != 0) = true := by simpa using h
    clear hA ho
    go_enter Tryd.func34, Tryd.ntmps34
    go_wp2_with (go_at_call 64; refine h1.mono ?_; rintro e w1 ⟨rfl, rfl⟩)
    go_ret2
    exact ⟨_, rfl, Own.nil _ _, Below.refl _ _⟩
end Go.Proofs.YtejdecfpegpgcaaDoor

namespace Go.Proofs.YtejdecfpegpgcaaDoor
open Go.RowKit

/-- T3 -/
def partOut (l : List (List UInt8)) (b e : Int) : List UInt8 × Int := if wrg l = 0 then (if 0 ≤ b ∧ b ≤ e ∧ e ≤ l.length then (Tree.root ((l.take e.toNat).drop b.toNat), 0) else ([], 30)) else ([], wrg l)
set_option maxRecDepth 100000 in
set_option maxHeartbeats 1000000 in
theorem Part_any (l : List (List UInt8)) (b e : Int) (a : Option Addr) (cap : Nat) (w : World) (hl : l.length ≤ cap) (hc : cap ≤ 9223372036854775807) (hA : At w a l) (T : Tabs w) :
    Calls Tryd.prog 71 #[.slice a l.length cap, .agg #[.int .i64 b, .int .i64 e]] w fun x w' => x = .returned (.tuple #[sv (partOut l b e).1, .int .i64 (partOut l b e).2]) ∧ Below w.heap.size w w' := by
  have hb0 := (Below.refl w.heap.size w).alloc (Nat.le_refl _) (.cells #[.int .i64 b, .int .i64 e] 25)
  have hA1 := hA.below hb0 (Nat.le_refl _)
  have h1 := check_any l a cap _ (by omega) hA1
  have d0 : (w.alloc (.cells #[.int .i64 b, .int .i64 e] 25)).cell? ⟨w.heap.size, 0, none⟩ = some (.int .i64 b) := by rw [cell_of_row _ _ _ _ _ _ (heap_alloc_new w _)]; rfl
  have d1 : (w.alloc (.cells #[.int .i64 b, .int .i64 e] 25)).cell? ⟨w.heap.size, 1, none⟩ = some (.int .i64 e) := by rw [cell_of_row _ _ _ _ _ _ (heap_alloc_new w _)]; rfl
  have T1 := T.below hb0 T.lt
  by_cases h : wrg l = 0
  · rw [h] at h1
    by_cases hbe : 0 ≤ b ∧ b ≤ e ∧ e ≤ l.length
    · have ho : partOut l b e = (Tree.root ((l.take e.toNat).drop b.toNat), 0) := by rw [partOut, if_pos h, if_pos hbe]
      rw [ho]
      obtain ⟨B, rfl⟩ : ∃ B : Nat, b = (B : Int) := ⟨b.toNat, by omega⟩
      obtain ⟨E, rfl⟩ : ∃ E : Nat, e = (E : Int) := ⟨e.toNat, by omega⟩
      rw [Int.toNat_natCast, Int.toNat_natCast]
      have q1 : B ≤ E := by omega
      have q2 : E ≤ l.length := by omega
      have hlen : ((l.take E).drop B).length = E - B := by simp; omega
      by_cases heq : E = B
      · subst heq
        rw [List.drop_eq_nil_of_le (by simp; omega)]
        have h2 := root_any [] a 0 _ (by simp) (by omega) (At.nil _ _) T1
        rw [List.length_nil] at h2
        generalize Tree.root [] = r at *
        generalize l.length = n at *
        clear h hbe ho hA hA1 T T1 hlen
        go_enter Tryd.func71, Tryd.ntmps71
        go_wp2_with (first
          | (go_at_call 64; refine h1.mono ?_; rintro e w1 ⟨rfl, hw1⟩; rw [hw1]; clear hw1)
          | (go_at_call 65; refine h2.mono ?_; rintro e w2 ⟨rfl, hw2⟩))
        go_ret2
        exact ⟨rfl, hb0.trans (hw2.mono hb0.size)⟩
      · obtain ⟨x, rfl⟩ := hA.pos (by omega)
        have A2 := (hA1.take E).drop B
        have h2 := root_any _ (some (x.add B)) (E - B) _ (by omega) (by omega) A2 T1
        rw [hlen] at h2
        generalize Tree.root ((l.take E).drop B) = r at *
        generalize l.length = n at *
        have hne : ¬ E = B := heq
        clear h hbe ho hA hA1 hlen A2 T T1
        go_enter Tryd.func71, Tryd.ntmps71
        go_wp2_with (first
          | (go_at_call 64; refine h1.mono ?_; rintro e w1 ⟨rfl, hw1⟩; rw [hw1]; clear hw1)
          | (go_at_call 65; refine h2.mono ?_; rintro e w2 ⟨rfl, hw2⟩))
        go_ret2
        exact ⟨rfl, hb0.trans (hw2.mono hb0.size)⟩
    · have ho : partOut l b e = ([], 30) := by rw [partOut, if_pos h, if_neg hbe]
      rw [ho]
      generalize l.length = n at *
      clear h hA hA1 ho T T1
      by_cases b1 : b < 0
      · clear hbe
        go_enter Tryd.func71, Tryd.ntmps71
        go_wp2_with (go_at_call 64; refine h1.mono ?_; rintro e w1 ⟨rfl, hw1⟩; rw [hw1]; clear hw1)
        go_ret2
        exact ⟨rfl, hb0⟩
      · by_cases b2 : e < b
        · clear hbe
          go_enter Tryd.func71, Tryd.ntmps71
          go_wp2_with (go_at_call 64; refine h1.mono ?_; rintro e w1 ⟨rfl, hw1⟩; rw [hw1]; clear hw1)
          go_ret2
          exact ⟨rfl, hb0⟩
        · have b3 : (n : Int) < e := by omega
          clear hbe
          go_enter Tryd.func71, Tryd.ntmps71
          go_wp2_with (go_at_call 64; refine h1.mono ?_; rintro e w1 ⟨rfl, hw1⟩; rw [hw1]; clear hw1)
          go_ret2
          exact ⟨rfl, hb0⟩
  · have ho : partOut l b e = ([], wrg l) := by rw [partOut, if_neg h]
    rw [ho]
    generalize wrg l = z at *
    generalize l.length = n at *
    have b0 : (z != 0) = true := by simpa using h
    clear hA hA1 ho T T1
    go_enter Tryd.func71, Tryd.ntmps71
    go_wp2_with (go_at_call 64; refine h1.mono ?_; rintro e w1 ⟨rfl, hw1⟩; rw [hw1]; clear hw1)
    go_ret2
    exact ⟨rfl, hb0⟩
end Go.Proofs.YtejdecfpegpgcaaDoor

namespace Go.Proofs.YtejdecfpegpgcaaDoor
open Go.RowKit

/-- which of n things -/
def pk (c n : Int) : Int := (if c < 0 then -(c + 1) else c) % n
theorem pk_nonneg (c n : Int) (hn : 0 < n) : 0 ≤ pk c n := Int.emod_nonneg _ (by omega)
theorem pk_lt (c n : Int) (hn : 0 < n) : pk c n < n := Int.emod_lt_of_pos _ hn
set_option maxRecDepth 100000 in
set_option maxHeartbeats 400000 in
theorem pick_any (c n : Int) (hc1 : -9223372036854775808 ≤ c) (hc2 : c ≤ 9223372036854775807) (hn : 0 < n) (hn2 : n ≤ 9223372036854775807) (w : World) :
    Calls Tryd.prog 10 #[.int .i64 c, .int .i64 n] w fun e w' => e = .returned (.int .i64 (pk c n)) ∧ w' = w := by
  have hp0 := pk_nonneg c n hn
  have hp1 := pk_lt c n hn
  have hn0 : ¬ n = 0 := by omega
  by_cases h : c < 0
  · have e1 : IntKind.i64.wrap (c + 1) = c + 1 := by rw [IntKind.wrap_i64]; omega
    have e2 : IntKind.i64.wrap (-(c + 1)) = -(c + 1) := by rw [IntKind.wrap_i64]; omega
    have e3 : Int.tmod (-(c + 1)) n = pk c n := by rw [Int.tmod_eq_emod_of_nonneg (by omega), pk, if_pos h]
    have e4 : IntKind.i64.wrap (pk c n) = pk c n := wrap_small _ (by omega) (by omega)
    go_enter Tryd.func10, Tryd.ntmps10
    go_wp2
    go_ret
    exact ⟨rfl, rfl⟩
  · have e3 : Int.tmod c n = pk c n := by rw [Int.tmod_eq_emod_of_nonneg (by omega), pk, if_neg h]
    have e4 : IntKind.i64.wrap (pk c n) = pk c n := wrap_small _ (by omega) (by omega)
    go_enter Tryd.func10, Tryd.ntmps10
    go_wp2
    go_ret
    exact ⟨rfl, rfl⟩


theorem AtI.below {w w' : World} {a : Option Addr} {l : List Int} {B : Nat} (h : AtI w a l) (hb : Below B w w') (hB : w.heap.size ≤ B) : AtI w' a l := fun j p hp => by
  obtain ⟨x, rfl, hx, hc⟩ := h j p hp
  exact ⟨x, rfl, Nat.lt_of_lt_of_le hx hb.size, (hb.cell (p := x.add j) (by rw [addr_block]; omega)).trans hc⟩
theorem AtI.pos {w : World} {a : Option Addr} {l : List Int} (h : AtI w a l) (hl : 0 < l.length) : ∃ x, a = some x := by
  obtain ⟨x, hx, _⟩ := h 0 _ (List.getElem?_eq_getElem hl)
  exact ⟨x, hx⟩
theorem AtI.cell {w : World} {x : Addr} {l : List Int} (h : AtI w (some x) l) (j : Nat) (hj : j < l.length) : w.cell? (x.add j) = some (.int .i64 l[j]) := by
  obtain ⟨y, hy, _, hc⟩ := h j _ (List.getElem?_eq_getElem hj)
  obtain rfl := Option.some.inj hy
  exact hc
def nums (cs : List Int) (k : Nat) : List (List UInt8) := (cs.take k).map lf
theorem nums_succ (cs : List Int) (k : Nat) (h : k < cs.length) : nums cs (k + 1) = nums cs k ++ [lf cs[k]] := by
  rw [nums, nums, List.take_add_one, List.getElem?_eq_getElem h, List.map_append]; rfl
theorem nums_len (cs : List Int) (k : Nat) : (nums cs k).length = min k cs.length := by simp [nums]
theorem nums_hs (cs : List Int) (k : Nat) : Tree.Hs (nums cs k) := fun x hx => by
  simp only [nums, List.mem_map] at hx
  obtain ⟨c, _, rfl⟩ := hx
  exact lf_length c
end Go.Proofs.YtejdecfpegpgcaaDoor

namespace Go.Proofs.YtejdecfpegpgcaaDoor.Tree
/-- the root of the first m, where m goes past the first part -/
theorem root_past {l : List T} {m : Nat} (h1 : sp l.length < m) (h2 : m ≤ l.length) (hl : 2 ≤ l.length) : root (l.take m) = nd (root (l.take (sp l.length))) (root ((l.drop (sp l.length)).take (m - sp l.length))) := by
  have a := sp_lt hl
  have b := sp_ge hl
  have c := sp_pos hl
  have hlen : (l.take m).length = m := by simp; omega
  have hs : sp m = sp l.length := by
    have e := sp_eq hl
    rw [e] at h1 b
    rw [sp_one (n := m) (by rw [← e] at h1; omega) _ h1 (by omega), e]
  rw [root_cut (l := l.take m) (by rw [hlen]; omega), hlen, hs, List.take_take, Nat.min_eq_left (by omega), List.drop_take]
end Go.Proofs.YtejdecfpegpgcaaDoor.Tree
namespace Go.Proofs.YtejdecfpegpgcaaDoor
open Go.RowKit
theorem At.init {w : World} {a : Option Addr} {l : List (List UInt8)} {r : List UInt8} (h : At w a (l ++ [r])) : At w a l := fun j p hp => h j p (by
  rw [List.getElem?_append_left (List.getElem?_eq_some_iff.1 hp).1]; exact hp)
theorem At.last {w : World} {x : Addr} {l : List (List UInt8)} {r : List UInt8} (h : At w (some x) (l ++ [r])) : w.cell? (x.add l.length) = some (.string ⟨r.toArray⟩) := by
  obtain ⟨y, hy, _, hc⟩ := h l.length r (by simp)
  obtain rfl := Option.some.inj hy
  exact hc
end Go.Proofs.YtejdecfpegpgcaaDoor

namespace Go.Proofs.YtejdecfpegpgcaaDoor
open Go.RowKit
theorem Own.at {w : World} {base : Nat} {v : Value} {L : List (List UInt8)} (h : Own w base v (svs L)) : ∃ a cap, v = .slice a L.length cap ∧ At w a L ∧ L.length ≤ cap ∧ cap ≤ 9223372036854775807 := by
  rcases h with ⟨rfl, h⟩ | ⟨g, cap, rfl, h1, h2, h3, h4, h5, h6⟩
  · obtain rfl : L = [] := by simpa [svs] using h
    exact ⟨none, 0, rfl, At.nil _ _, by simp, by omega⟩
  · rw [svs_length] at h2
    refine ⟨some ⟨g, 0, none⟩, cap, by rw [svs_length], fun j p hp => ⟨_, rfl, h6, ?_⟩, h2, h3⟩
    rw [Addr.add_mid]
    exact h4 j (sv p) (by simp [svs, hp])
theorem wrg_hs {l : List (List UInt8)} (h : Tree.Hs l) (hl : l.length ≤ 4096) : wrg l = 0 := by
  rw [wrg, if_neg (by omega), if_pos]
  rw [List.all_eq_true]
  intro x hx
  simpa using h x hx
theorem Proof_hs {l : List (List UInt8)} (h : Tree.Hs l) (hl : l.length ≤ 4096) (m : Nat) (h1 : 1 ≤ m) (h2 : m ≤ l.length) (a : Option Addr) (cap : Nat) (w : World) (hlc : l.length ≤ cap) (hc : cap ≤ 9223372036854775807) (hA : At w a l) (T : Tabs w) :
    Calls Tryd.prog 34 #[.slice a l.length cap, .int .i64 m] w (Out2 w (Tree.proof m l true, 0)) := by
  have := Proof_any l m a cap w hlc hc hA T
  rwa [proofOut, if_pos (wrg_hs h hl), if_pos (by omega), Int.toNat_natCast] at this
theorem Root_hs {l : List (List UInt8)} (h : Tree.Hs l) (hl : l.length ≤ 4096) (a : Option Addr) (cap : Nat) (w : World) (hlc : l.length ≤ cap) (hc : cap ≤ 9223372036854775807) (hA : At w a l) (T : Tabs w) :
    Calls Tryd.prog 32 #[.slice a l.length cap] w fun e w' => e = .returned (.tuple #[sv (Tree.root l), .int .i64 0]) ∧ Below w.heap.size w w' := by
  have := Root_any l a cap w hlc hc hA T
  rwa [rootOut, if_pos (wrg_hs h hl)] at this
theorem Part_hs {l : List (List UInt8)} (h : Tree.Hs l) (hl : l.length ≤ 4096) (a : Option Addr) (cap : Nat) (w : World) (hlc : l.length ≤ cap) (hc : cap ≤ 9223372036854775807) (hA : At w a l) (T : Tabs w) :
    Calls Tryd.prog 71 #[.slice a l.length cap, .agg #[.int .i64 0, .int .i64 (l.length : Nat)]] w fun e w' => e = .returned (.tuple #[sv (Tree.root l), .int .i64 0]) ∧ Below w.heap.size w w' := by
  have := Part_any l 0 (l.length : Nat) a cap w hlc hc hA T
  rwa [partOut, if_pos (wrg_hs h hl), if_pos (by omega), Int.toNat_natCast, List.take_length, show Int.toNat 0 = 0 from rfl, List.drop_zero] at this
theorem Tabs.next {w w' : World} (h : Tabs w) (hb : Below w.heap.size w w') : Tabs w' := h.below hb h.lt
end Go.Proofs.YtejdecfpegpgcaaDoor
