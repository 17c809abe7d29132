import Derived.Test.YtdbbemcddhgbcaaGreatDoorPkNG6
import Derived.Test.YtdbbemcddhgbcaaGreatDoorPkX1
import Derived.Test.YtdbbemcddhgbcaaGreatDoorPkNF1
import Derived.Test.YtdbbemcddhgbcaaGreatDoorCards
import Derived.Test.YtdbbemcddhgbcaaGreatDoorTie
import Derived.WalkKit
import Derived.ProofKit
import Derived.OpenShut
import Derived.Deep.DeepHandedRow
import Derived.Lib.LaidTab
import Derived.Carry
import Derived.ChangeOld
import Derived.Stop.LaidErr
import Derived.Test.YtdbbemcddhgbcaaGreatDoorPkW3
/- Layer 22, the law: the chapter's examples -/
namespace Go.Proofs.YtdbbemcddhgbcaaGreatDoor
open Go.RowKit Go.Shelf
namespace Nt
def exO : ByteArray := ⟨#[108, 111, 103, 46, 101, 120, 97, 109, 112, 108, 101, 47, 49]⟩
def exR : ByteArray := ⟨(List.replicate 32 (0 : UInt8)).toArray⟩
def exA : ByteArray := ⟨#[108, 111, 103, 46, 101, 120, 97, 109, 112, 108, 101, 47, 49, 10, 53, 10, 65, 65, 65, 65, 65, 65, 65, 65, 65, 65, 65, 65, 65, 65, 65, 65, 65, 65, 65, 65, 65, 65, 65, 65, 65, 65, 65, 65, 65, 65, 65, 65, 65, 65, 65, 65, 65, 65, 65, 65, 65, 65, 65, 61, 10]⟩
def exB : ByteArray := ⟨#[108, 111, 103, 46, 101, 120, 97, 109, 112, 108, 101, 47, 49, 10, 53, 10, 65, 65, 65, 65, 65, 65, 65, 65, 65, 65, 65, 65, 65, 65, 65, 65, 65, 65, 65, 65, 65, 65, 65, 65, 65, 65, 65, 65, 65, 65, 65, 65, 65, 65, 65, 65, 65, 65, 65, 65, 65, 65, 65, 61, 10, 10]⟩
theorem exA_size : exA.size = 61 := by decide +kernel
theorem exB_size : exB.size = 62 := by decide +kernel
theorem ex1 : bodyA exO 5 exR = (exA, 0) := by kernel_rfl
theorem ex2 : prtA exO 5 exR [] = (exB, 0) := by kernel_rfl
theorem ex3 : psA ⟨#[]⟩ = (none, 0) := by kernel_rfl
theorem ex4 : psA exA = (none, 3) := by kernel_rfl
theorem ex5 : psA exB = (some ⟨exO, 5, exR, []⟩, 4) := by kernel_rfl
theorem ex6 : wrongN exO 5 exR [] = 0 := by kernel_rfl
theorem ex7 : exB = exA ++ ⟨#[10]⟩ := by decide +kernel
theorem make32n (w : World) : (Instr.makeSlice 43 (.int .i64 32) (.int .i64 32)).run Tryz.prog w = .ok (.slice (some ⟨w.heap.size, 0, none⟩) 32 32) (w.alloc (.cells (bv (List.replicate 32 0)).toArray 5)) := by
  obtain ⟨i0, hi, hz0, hz1, hz2⟩ := info_parts info5'
  have h := run_make (P := Tryz.prog) w 43 5 i0 (.int .u8 0) Tryz.underlying43 hi hz0 .i64 .i64 32 32 (by omega) (by omega) (by rw [hz2]; decide) (by omega)
  rw [hz1] at h
  have e : madeCells (Value.int .u8 0).cells (Int.toNat 32 * 1) = (bv (List.replicate 32 0)).toArray := by
    apply Array.ext'
    have h1 : (madeCells (Value.int .u8 0).cells (Int.toNat 32 * 1)).toList = List.replicate (Int.toNat 32 * 1) (.int .u8 0) := toList_madeCells_one _ _
    rw [h1, bv, List.map_replicate]
    rfl
  rw [e] at h
  exact h
theorem nb_new (w : World) (O : ByteArray) (z : Int) (R : ByteArray) (v : Value) : Below w.heap.size w ((w.alloc (.cells #[.string ⟨#[]⟩, .int .i64 0, .string ⟨#[]⟩, .slice none 0 0] 26)).setRow w.heap.size #[.string O, .int .i64 z, .string R, v]) ∧ Bx ((w.alloc (.cells #[.string ⟨#[]⟩, .int .i64 0, .string ⟨#[]⟩, .slice none 0 0] 26)).setRow w.heap.size #[.string O, .int .i64 z, .string R, v]) w.heap.size O z R v :=
  ⟨Below.setRow ((Below.refl _ _).alloc (Nat.le_refl _) _) (Nat.le_refl _) _, setRow_heap _ _ _ _ _ _ (Bx.new w ⟨#[]⟩ 0 ⟨#[]⟩ (.slice none 0 0))⟩
theorem hd_eq (w : World) : (binOp .eql 23 (.agg #[.int .i64 5, .string exR]) (.agg #[.int .i64 5, .string exR])).run Tryz.prog w = .ok (.bool true) w := by kernel_rfl
set_option maxRecDepth 100000 in
set_option maxHeartbeats 8000000 in
theorem known22_any {E : Es} {w : World} (h : Nw w E) : Calls Tryz.prog 6 #[] w fun q w' => q = .returned (.bool true) ∧ Below w.heap.size w w' := by
  have hmk := make32n w
  have hh := heap_alloc_new w (.cells (bv (List.replicate 32 0)).toArray 5)
  have b0 := (Below.refl w.heap.size w).alloc (Nat.le_refl _) (.cells (bv (List.replicate 32 0)).toArray 5)
  have hz : (w.alloc (.cells (bv (List.replicate 32 0)).toArray 5)).heap.size = w.heap.size + 1 := by rw [size_alloc]
  generalize w.alloc (.cells (bv (List.replicate 32 0)).toArray 5) = w1 at *
  have hcv := run_conv_bytes (P := Tryz.prog) w1 43 9 5 w.heap.size 0 32 32 (List.replicate 32 0) (by simp) Tryz.underlying43 Tryz.underlying5 Tryz.underlying9 (rangeAt_of_list hh (fun j v hv => by rw [Nat.zero_add]; exact hv))
  have es : sv (List.replicate 32 0) = Value.string exR := rfl
  rw [es] at hcv
  have S0 := hid (Bx.new w1 ⟨#[]⟩ 0 ⟨#[]⟩ (.slice none 0 0))
  have HZ := hid hz
  have HB := hid b0
  have HN := hid h
  clear hh es hz b0 h
  go_enter Tryz.func6, Tryz.ntmps6
  go_upto_region 2 with ((with_reducible show wpList _ _ _ (Oper.mk _ (Op.store 26 _ _) _ _ _ _ :: _) _ _); go_must (refine wpList_store_row rfl 26 _ _ rfl w1.heap.size _ rfl rfl 26 _ S0.out (sizeNt22 _ _ _ _) rfl (oneNt22 _ _ _ _ _ _) ?_))
  obtain ⟨BA, SA⟩ := nb_new w1 exO 5 exR (.slice none 0 0)
  obtain ⟨W, hW⟩ : ∃ W, (w1.alloc (.cells #[.string ⟨#[]⟩, .int .i64 0, .string ⟨#[]⟩, .slice none 0 0] 26)).setRow w1.heap.size #[.string exO, .int .i64 5, .string exR, .slice none 0 0] = W := ⟨_, rfl⟩
  rw [hW] at BA SA
  obtain ⟨g, hg⟩ : ∃ g, w1.heap.size = g := ⟨_, rfl⟩
  have BW := hid (HB.out.trans (BA.mono HB.out.size))
  rw [hg] at SA
  have hO : exO = ⟨#[108, 111, 103, 46, 101, 120, 97, 109, 112, 108, 101, 47, 49]⟩ := rfl
  rw [← hO]
  rw [hg] at hW ⊢
  rw [hW]
  have HN := hid (fun w' (b : Below W.heap.size W w') => HN.out.below (BW.out.trans (b.mono BW.out.size)))
  have i1 := hid (fun w' (b : Below W.heap.size W w') => body_any (HN.out w' b) exO exR 5 (.slice none 0 0) exA 0 ex1)
  have i2 := hid (fun w' (b : Below W.heap.size W w') => print_any (HN.out w' b) exO exR 5 [] 0 rfl (by omega) none 0 (AtS.nil _ _) exB 0 ex2)
  have i3 := hid (fun w' (b : Below W.heap.size W w') => (by have h9 := parse_any (HN.out w' b) exB (by rw [exB_size]; omega); rw [ex5] at h9; exact h9 : Calls Tryz.prog 16 #[.string exB] w' fun q w'' => PsQ w'.heap.size (some ⟨exO, 5, exR, []⟩, 4) q w'' ∧ Below w'.heap.size w' w''))
  have i4 := hid (fun w' (b : Below W.heap.size W w') => (by have h9 := parse_any (HN.out w' b) ⟨#[]⟩ (Nat.zero_le _); rw [ex3] at h9; exact h9 : Calls Tryz.prog 16 #[.string ⟨#[]⟩] w' fun q w'' => PsQ w'.heap.size (none, 0) q w'' ∧ Below w'.heap.size w' w''))
  have i5 := hid (fun w' (b : Below W.heap.size W w') => (by have h9 := parse_any (HN.out w' b) exA (by rw [exA_size]; omega); rw [ex4] at h9; exact h9 : Calls Tryz.prog 16 #[.string exA] w' fun q w'' => PsQ w'.heap.size (none, 3) q w'' ∧ Below w'.heap.size w' w''))
  have i6 := hid (fun w' (b : Below W.heap.size W w') => check_nil (HN.out w' b) exO exR 5 0 ⟨#[120]⟩ ⟨#[]⟩ ex6)
  have CS := hid (fun w' (b : Below W.heap.size W w') => (show w'.cell? ⟨g, 0, none⟩ = some (.string exO) ∧ w'.cell? ⟨g, 1, none⟩ = some (.int .i64 5) ∧ w'.cell? ⟨g, 2, none⟩ = some (.string exR) ∧ w'.cell? ⟨g, 3, none⟩ = some (.slice none 0 0) from ⟨(SA.below b).c0, (SA.below b).c1, (SA.below b).c2, (SA.below b).c3⟩))
  have q1 : (exA.toList == [108, 111, 103, 46, 101, 120, 97, 109, 112, 108, 101, 47, 49, 10, 53, 10, 65, 65, 65, 65, 65, 65, 65, 65, 65, 65, 65, 65, 65, 65, 65, 65, 65, 65, 65, 65, 65, 65, 65, 65, 65, 65, 65, 65, 65, 65, 65, 65, 65, 65, 65, 65, 65, 65, 65, 65, 65, 65, 65, 61, 10]) = true := by decide +kernel
  have q2 : (exB.toList == (exA ++ ⟨#[10]⟩).toList) = true := by rw [ex7]; exact beq_self_eq_true _
  have q3 : (exO.toList == exO.toList) = true := beq_self_eq_true _
  have q4 := fun W => hd_eq W
  have q5 : ¬ 9223372036854775807 < exA.size + 1 := by rw [exA_size]; omega
  have HZ2 := hid hg
  clear hmk hcv BA SA hW hg S0 hO HB
  obtain ⟨p0, p1, p2, p3⟩ := CS.out W (Below.refl _ _)
  unfold nv at *
  generalize exA = A at *
  generalize exB = B at *
  generalize exO = O at *
  generalize exR = R at *
  have B0 := hid (Below.refl W.heap.size W)
  go_upto_region 3 with (go_at_call 14; (refine (i1.out W (Below.refl _ _)).mono ?_); rintro q w2 ⟨rfl, b2⟩)
  clear p0 p1 p2 p3 i1 B0
  obtain ⟨p0, p1, p2, p3⟩ := CS.out w2 b2
  go_upto_region 4 with (go_at_call 15; (refine (i2.out w2 b2).mono ?_); rintro q w3 ⟨rfl, b3⟩)
  have B3 := b2.trans (b3.mono b2.size)
  have iP := i3.out w3 B3
  clear p0 p1 p2 p3 i2 b2 b3 i3
  go_upto_region 5 with (first
    | (go_at_call 16; (refine iP.mono ?_); rintro q w4 ⟨⟨v, rfl, ho, -⟩, b4⟩; obtain ⟨a4, c4, rfl, -, -⟩ := ho.shape; have S4 := hid (Bx.new w4 ⟨#[]⟩ 0 ⟨#[]⟩ (.slice none 0 0)); unfold nv)
    | ((with_reducible show wpList _ _ _ (Oper.mk _ (Op.store 26 _ _) _ _ _ _ :: _) _ _); go_must (refine wpList_store_row rfl 26 _ _ rfl w4.heap.size _ rfl rfl 26 _ S4.out (sizeNt22 _ _ _ _) rfl (oneNt22 _ _ _ _ _ _) ?_)))
  have N4 := nb_new w4 O 5 R (.slice a4 0 c4)
  obtain ⟨W4, hW4⟩ : ∃ W4, (w4.alloc (.cells #[.string ⟨#[]⟩, .int .i64 0, .string ⟨#[]⟩, .slice none 0 0] 26)).setRow w4.heap.size #[.string O, .int .i64 5, .string R, .slice a4 0 c4] = W4 := ⟨_, rfl⟩
  rw [hW4] at N4 ⊢
  obtain ⟨g4, hg4⟩ : ∃ g, w4.heap.size = g := ⟨_, rfl⟩
  have B4 := hid (B3.trans ((b4.trans (N4.1.mono b4.size)).mono B3.size))
  obtain ⟨-, X4⟩ := N4
  rw [hg4] at X4 ⊢
  have X4 := hid X4
  have iQ := i4.out W4 B4.out
  clear iP b4 hW4 S4 B3 i4 ho
  go_upto_region 6 with (first
    | (go_at_call 16; (refine iQ.mono ?_); rintro q w5 ⟨rfl, b5⟩; have S5 := hid (Bx.new w5 ⟨#[]⟩ 0 ⟨#[]⟩ (.slice none 0 0)); unfold nv)
    | ((with_reducible show wpList _ _ _ (Oper.mk _ (Op.store 26 _ _) _ _ _ _ :: _) _ _); go_must (refine wpList_store_row rfl 26 _ _ rfl w5.heap.size _ rfl rfl 26 _ S5.out (sizeNt22 _ _ _ _) rfl (oneNt22 _ _ _ _ _ _) ?_)))
  have N5 := nb_new w5 ⟨#[]⟩ 0 ⟨#[]⟩ (.slice none 0 0)
  obtain ⟨W5, hW5⟩ : ∃ W5, (w5.alloc (.cells #[.string ⟨#[]⟩, .int .i64 0, .string ⟨#[]⟩, .slice none 0 0] 26)).setRow w5.heap.size #[.string ⟨#[]⟩, .int .i64 0, .string ⟨#[]⟩, .slice none 0 0] = W5 := ⟨_, rfl⟩
  rw [hW5] at N5 ⊢
  have b45 := b5.trans (N5.1.mono b5.size)
  have B5 := hid (B4.out.trans (b45.mono B4.out.size))
  have X5 := hid (X4.out.below b45)
  have iS := i5.out W5 B5.out
  clear iQ b5 hW5 S5 N5 b45 i5 X4 B4
  go_upto_region 7 with (first
    | (go_at_call 16; (refine iS.mono ?_); rintro q w6 ⟨rfl, b6⟩; have S6 := hid (Bx.new w6 ⟨#[]⟩ 0 ⟨#[]⟩ (.slice none 0 0)); unfold nv)
    | ((with_reducible show wpList _ _ _ (Oper.mk _ (Op.store 26 _ _) _ _ _ _ :: _) _ _); go_must (refine wpList_store_row rfl 26 _ _ rfl w6.heap.size _ rfl rfl 26 _ S6.out (sizeNt22 _ _ _ _) rfl (oneNt22 _ _ _ _ _ _) ?_)))
  have N6 := nb_new w6 ⟨#[]⟩ 0 ⟨#[]⟩ (.slice none 0 0)
  obtain ⟨W6, hW6⟩ : ∃ W6, (w6.alloc (.cells #[.string ⟨#[]⟩, .int .i64 0, .string ⟨#[]⟩, .slice none 0 0] 26)).setRow w6.heap.size #[.string ⟨#[]⟩, .int .i64 0, .string ⟨#[]⟩, .slice none 0 0] = W6 := ⟨_, rfl⟩
  rw [hW6] at N6 ⊢
  have b56 := b6.trans (N6.1.mono b6.size)
  have B6 := hid (B5.out.trans (b56.mono B5.out.size))
  have X6 := X5.out.below b56
  have iC := i6.out W6 B6.out
  obtain ⟨p0, p1, p2, p3⟩ := CS.out W6 B6.out
  have r0 := X6.c0
  have r1 := X6.c1
  have r2 := X6.c2
  clear iS b6 hW6 S6 N6 b56 i6 X6 B5 X5 CS
  go_wp2_with (go_at_call 17; (refine iC.mono ?_); rintro q w7 ⟨rfl, b7⟩)
  go_ret
  exact ⟨rfl, BW.out.trans ((B6.out.trans (b7.mono B6.out.size)).mono BW.out.size)⟩
end Nt
end Go.Proofs.YtdbbemcddhgbcaaGreatDoor

/- Layer 22: NotePrints' walk and its known -/

namespace Go.Proofs.YtdbbemcddhgbcaaGreatDoor
open Go.ChangeShapes Go.WideShapes Go.ChangeAt Go.RowKit

/-- What was read ahead of the call reads so behind it: nothing old has turned. -/
theorem stays_all {H : Type} {enc : TypeId × Value → H} {P : Program} (hl : laidOutB P = true) {W W' : World} (hb : Below W.heap.size W W') {sp : Nat → Bool} :
    ∀ {ts : List TypeId} {vs : List Value} {ds : List (DataW H)} {p : List MemPlace}, (ts.all fun t => P.readableRec t && decide (t < P.types.size)) = true →
      DataW.TrodAll enc P W 0 (fun _ => true) true ts vs ds p → (∀ x ∈ p, x.block < W.heap.size) → (∀ x ∈ p, sp x.block = true) → DataW.TrodAll enc P W' 0 sp true ts vs ds p
  | [], _, _, _, _, h, _, _ => by obtain ⟨rfl, rfl, rfl⟩ := trodAll_nil h; exact trodAll_mk0
  | t :: ts, _, _, _, ht, h, hlt, hs => by
    obtain ⟨v, vs1, d, ds1, a, b, rfl, rfl, rfl, h1, h2⟩ := trodAll_cons h
    simp only [List.all_cons, Bool.and_eq_true, decide_eq_true_eq] at ht
    refine trodAll_cons_mk (WideElems.Trod_stays hl ht.1.1 ht.1.2 h1 (fun x hx => hb.same (hlt x (by simp [hx]))) (fun x hx => hs x (by simp [hx]))) ?_
    exact stays_all hl hb (by simpa using ht.2) h2 (fun x hx => hlt x (by simp [hx])) (fun x hx => hs x (by simp [hx]))

/-- THE ROW's POST, for a law that returns true and turns nothing that was there. -/
theorem post_true {H : Type} {enc : TypeId × Value → H} {P : Program} {f : Func} {s : ChangeSpec} {W W' : World} {args : Array Value} {ds gs : List (DataW H)} {before : List MemPlace} {bt : TypeId} (hl : laidOutB P = true)
    (hts : (f.params.toList.all fun t => P.readableRec t && decide (t < P.types.size)) = true) (hrt : f.resultTypes = #[bt]) (hbt : P.underlying bt = some .bool)
    (hvs : s.vars = []) (hr : (s.fn H (ds ++ gs)).results = [.lit (.bool true)]) (ha : (s.fn H (ds ++ gs)).args = ds) (hv : (s.fn H (ds ++ gs)).vars = [])
    (hW : DataW.Whole enc P f.params.toList s.vars false W args.toList ds gs before) (hb : Below W.heap.size W W') :
    s.post enc P f false true false false W args (.bool true) W' := by
  have hW' := hW
  have hlt : ∀ x ∈ before, x.block < W.heap.size := fun x hx => by simpa using hW.lt x hx
  obtain ⟨p, q, hA, hV, rfl, _, _⟩ := hW
  rw [hvs] at hV
  obtain ⟨rfl, rfl⟩ := trodVars_none hV
  refine ⟨ds, [], p ++ [], [], p, [], hW', ?_, ?_, ?_, hb.frame _, fun h => by cases h⟩
  · rw [hr, hrt]
    exact trodAll_cons_mk (shut_bool hbt true) trodAll_mk0
  · rw [ha]
    exact stays_all hl hb hts hA (fun x hx => hlt x (by simp [hx])) (fun x hx => by simpa using hlt x (by simp [hx]))
  · rw [hv, hvs]; rfl

theorem own : ownKnob Tryz.prog.godebug = none := by kernel_rfl
theorem laidOut : laidOutB Tryz.prog = true := by kernel_rfl
theorem gRounds : Tryz.prog.globalNamed "scrivener/digest.rounds" = some 11 := by kernel_rfl
theorem gRoundsType : (Tryz.prog.globals[11]?).map (·.type) = some 253 := by kernel_rfl
theorem gStart : Tryz.prog.globalNamed "scrivener/digest.start" = some 12 := by kernel_rfl
theorem gStartType : (Tryz.prog.globals[12]?).map (·.type) = some 206 := by kernel_rfl
theorem cells64 : Tryz.prog.cellsOf 253 = 64 := by kernel_rfl
theorem cells8 : Tryz.prog.cellsOf 206 = 8 := by kernel_rfl
theorem cells1 : Tryz.prog.cellsOf 140 = 1 := by kernel_rfl

def both : List (String × DataW Unit) := [("scrivener/digest.start", Rows.laid_scrivener_digest_start), ("scrivener/digest.rounds", Rows.laid_scrivener_digest_rounds)]
theorem tabs_of {W : World} (h : laidMet Tryz.prog both W) : Tabs W := by
  have h1 : Lib.TabIs Tryz.prog W "scrivener/digest.start" .u32 (Sha.iv.l.map Int.ofNat) :=
    Lib.tabIs_of_head gStart gStartType Tryz.underlying206 Tryz.underlying140 cells1 cells8 (show laidMet Tryz.prog (("scrivener/digest.start", Lib.tabData .u32 (Sha.iv.l.map Int.ofNat)) :: _) W from h)
  have h2 : Lib.TabIs Tryz.prog W "scrivener/digest.rounds" .u32 (Sha.kTab.map Int.ofNat) :=
    Lib.tabIs_of_head gRounds gRoundsType Tryz.underlying253 Tryz.underlying140 cells1 cells64 (show laidMet Tryz.prog (("scrivener/digest.rounds", Lib.tabData .u32 (Sha.kTab.map Int.ofNat)) :: []) W from laidMet.tail h)
  refine ⟨fun j hj => ?_, fun j hj => ?_⟩
  · have := h2.cell gRounds j (by rw [List.length_map]; exact hj)
    rw [this]
    simp [List.getD_eq_getElem?_getD]
    rw [List.getElem?_eq_getElem (show j < Sha.kTab.length from hj)]; simp
  · have := h1.cell gStart j (by rw [List.length_map]; exact hj)
    rw [this]
    simp [List.getD_eq_getElem?_getD]
    rw [List.getElem?_eq_getElem (show j < Sha.iv.l.length from hj)]; simp
/-- A WORLD FOR THE WITNESS: both tables laid. -/
def fillObj (cs : Array Value) : Obj → Obj
  | .cells _ t frozen => .cells cs t frozen
  | o => o
noncomputable def laidWorld (os : Os) : World :=
  { World.holding Tryz.prog os ⟨#[], #[], []⟩ with
    heap := ((World.holding Tryz.prog os ⟨#[], #[], []⟩).heap.modify 11 (fillObj (Sha.kTab.map fun n => Value.int .u32 (Int.ofNat n)).toArray)).modify 12 (fillObj (Sha.iv.l.map fun n => Value.int .u32 (Int.ofNat n)).toArray) }
end Go.Proofs.YtdbbemcddhgbcaaGreatDoor
