import Derived.Test.YtjodbmbadhbblaaDoorCSP28
import Derived.Test.YtjodbmbadhbblaaDoorCFN1
import Derived.Test.YtjodbmbadhbblaaDoorCK5
namespace Go.Proofs.YtjodbmbadhbblaaDoor
open Go.RowKit Go.Shelf
/-- what such a call answers, as one looks at it -/
def Ans (n : Nat) (l : List (Int × Int)) (w : World) (r : Ending) (w' : World) : Prop := ∃ a k, r = .returned (.tuple #[.slice a n k, .int .i64 0]) ∧ AtP w' a l ∧ Below w.heap.size w w'
theorem SpP.ans {w w' : World} {c : Int} {L : List (Nat × Nat)} {r : Ending} {n : Nat} {l : List (Int × Int)} (h : SpP w c L r w') (hc : c = 0) (hL : L.length = n) (hl : L.map (fun s => ((s.1 : Int), (s.2 : Int))) = l) : Ans n l w r w' := by
  subst hc hL hl
  obtain ⟨hb, v, rfl, ho, _⟩ := h
  obtain ⟨a, k, rfl, _, _⟩ := ho.shape
  exact ⟨a, k, rfl, OwnP.atP ho, hb⟩
theorem e_cover : coverE 1 7 = 0 ∧ coverL 1 7 = [(0, 1), (1, 1), (1, 2), (0, 6)] := by decide +kernel
theorem e_path : pathE 5 0 = 0 ∧ pathL 5 0 = [(1, 2), (2, 4), (4, 5)] := by decide +kernel
theorem e_proof : proofE 3 5 = 0 ∧ proofL 3 5 = [(2, 3), (3, 4), (0, 2), (4, 5)] := by decide +kernel
theorem e_batch : batchE 5 [0, 3] = 0 ∧ batchL 5 [0, 3] = [(1, 2), (2, 3), (4, 5)] := by decide +kernel
theorem e_run : runE 5 1 4 = 0 ∧ runL 5 1 4 = [(0, 1), (4, 5)] := by decide +kernel
theorem e_ins : insB 5 0 4 = true ∧ insB 5 0 5 = true := by decide +kernel
theorem e_sp5 : Tree.sp 5 = 4 := by decide +kernel
theorem e_fo (x y : ByteArray) : foS 5 0 5 (witS 0 5 (prd [(0, 4), (4, 5)] [x, y])) = some ⟨(Tree.nd x.data.toList y.data.toList).toArray⟩ := by
  have e1 : witS 0 5 (prd [(0, 4), (4, 5)] [x, y]) = [((0, 4), x), ((4, 5), y)] := by simp [witS, prd, hasI]
  have e2 : witS ((0 : Nat) : Int) ((0 + 4 : Nat) : Int) [((0, 4), x), ((4, 5), y)] = [((0, 4), x)] := by simp [witS, hasI]
  have e3 : witS ((0 + 4 : Nat) : Int) ((0 + 5 : Nat) : Int) [((0, 4), x), ((4, 5), y)] = [((4, 5), y)] := by simp [witS, hasI]
  have e4 : foS 4 0 4 [((0, 4), x)] = some x := by simp [foS]
  have e5 : foS 4 (0 + 4) (5 - 4) [((4, 5), y)] = some y := by simp [foS]
  have e6 : ([((0, 4), x), ((4, 5), y)] : List Sub).find? (fun q => decide (q.1 = (((0 : Nat) : Int), ((0 + 5 : Nat) : Int)))) = none := by simp
  rw [e1, foS, e6]
  simp only []
  rw [if_neg (by omega), e_sp5, e2, e3, if_neg (by simp), e4, e5]
theorem e_fold (x y : List UInt8) (hx : x.length = 32) (hy : y.length = 32) : foldA 5 [(0, 4), (4, 5)] [x, y] 0 5 = (⟨(Tree.nd x y).toArray⟩, 0) := by
  unfold foldA
  rw [if_pos (by omega), if_pos (by simp), if_pos (by simp [hsB8, hx, hy]), if_pos e_ins.2]
  have := e_fo ⟨x.toArray⟩ ⟨y.toArray⟩
  rw [show (5 : Int).toNat - (0 : Int).toNat = 5 from rfl, show (0 : Int).toNat = 0 from rfl, show bas [x, y] = [⟨x.toArray⟩, ⟨y.toArray⟩] from rfl, this]
set_option maxRecDepth 100000 in
set_option maxHeartbeats 8000000 in
theorem known8_any (w : World) (Z : Tb w) : Calls Tryd.prog 9 #[] w fun r w' => r = .returned (.bool true) ∧ Below w.heap.size w w' := by
  have hZ := Z.lt
  have HZ := hid Z
  have iC := fun (w' : World) (hb : Below w.heap.size w w') => (cover_any 1 7 w' (Z.below hb hZ)).mono (fun r w'' h => h.ans (n := 4) (l := [(0, 1), (1, 1), (1, 2), (0, 6)]) e_cover.1 (by rw [e_cover.2]; rfl) (by rw [e_cover.2]; rfl))
  have iP := fun (w' : World) => (path8_any 5 0 w').mono (fun r w'' h => h.ans (n := 3) (l := [(1, 2), (2, 4), (4, 5)]) e_path.1 (by rw [e_path.2]; rfl) (by rw [e_path.2]; rfl))
  have iR := fun (w' : World) => (proof8_any 3 5 w').mono (fun r w'' h => h.ans (n := 4) (l := [(2, 3), (3, 4), (0, 2), (4, 5)]) e_proof.1 (by rw [e_proof.2]; rfl) (by rw [e_proof.2]; rfl))
  have iB : ∀ w' : World, Calls Tryd.prog 21 #[.int .i64 5, .slice (some ⟨w'.heap.size, 0, none⟩) 2 2] (w'.alloc (.cells #[.int .i64 0, .int .i64 3] 3)) (Ans 3 [(1, 2), (2, 3), (4, 5)] w') := fun w' =>
    (batch8_any 5 [0, 3] (some ⟨w'.heap.size, 0, none⟩) 2 (w'.alloc (.cells #[.int .i64 0, .int .i64 3] 3)) (by decide) (AtI.lit w' [0, 3] 3)).mono (fun r w'' h => by
      obtain ⟨a, k, h1, h2, h3⟩ := h.ans (n := 3) (l := [(1, 2), (2, 3), (4, 5)]) e_batch.1 (by rw [e_batch.2]; rfl) (by rw [e_batch.2]; rfl)
      have hb := (Below.refl _ w').alloc (Nat.le_refl _) (.cells #[.int .i64 0, .int .i64 3] 3)
      exact ⟨a, k, h1, h2, hb.trans (h3.mono hb.size)⟩)
  have iU := fun (w' : World) => (run8_any 5 1 4 w').mono (fun r w'' h => h.ans (n := 2) (l := [(0, 1), (4, 5)]) e_run.1 (by rw [e_run.2]; rfl) (by rw [e_run.2]; rfl))
  have sC : ∀ (a : Option Addr) (k : Nat) (w' : World), AtP w' a [(0, 1), (1, 1), (1, 2), (0, 6)] → Calls Tryd.prog 39 #[.slice a 4 k, .slice (some ⟨w'.heap.size, 0, none⟩) 4 4] (w'.alloc (.cells #[.int .i64 0, .int .i64 1, .int .i64 1, .int .i64 1, .int .i64 1, .int .i64 2, .int .i64 0, .int .i64 6] 69)) fun r w'' => r = .returned (.bool true) ∧ Below w'.heap.size w' w'' := fun a k w' h => by
    have hb := (Below.refl _ w').alloc (Nat.le_refl _) (.cells #[.int .i64 0, .int .i64 1, .int .i64 1, .int .i64 1, .int .i64 1, .int .i64 2, .int .i64 0, .int .i64 6] 69)
    exact (nodes_yes [(0, 1), (1, 1), (1, 2), (0, 6)] a (some ⟨w'.heap.size, 0, none⟩) k 4 _ (by decide) (h.below hb (Nat.le_refl _)) (AtP.lit w' [(0, 1), (1, 1), (1, 2), (0, 6)] 69)).mono (fun r w'' h => ⟨h.1, hb.trans (h.2.mono hb.size)⟩)
  have sP : ∀ (a : Option Addr) (k : Nat) (w' : World), AtP w' a [(1, 2), (2, 4), (4, 5)] → Calls Tryd.prog 40 #[.slice a 3 k, .slice (some ⟨w'.heap.size, 0, none⟩) 3 3] (w'.alloc (.cells #[.int .i64 1, .int .i64 2, .int .i64 2, .int .i64 4, .int .i64 4, .int .i64 5] 25)) fun r w'' => r = .returned (.bool true) ∧ Below w'.heap.size w' w'' := fun a k w' h => by
    have hb := (Below.refl _ w').alloc (Nat.le_refl _) (.cells #[.int .i64 1, .int .i64 2, .int .i64 2, .int .i64 4, .int .i64 4, .int .i64 5] 25)
    exact (spans_yes [(1, 2), (2, 4), (4, 5)] a (some ⟨w'.heap.size, 0, none⟩) k 3 _ (by decide) (h.below hb (Nat.le_refl _)) (AtP.lit w' [(1, 2), (2, 4), (4, 5)] 25)).mono (fun r w'' h => ⟨h.1, hb.trans (h.2.mono hb.size)⟩)
  have sR : ∀ (a : Option Addr) (k : Nat) (w' : World), AtP w' a [(2, 3), (3, 4), (0, 2), (4, 5)] → Calls Tryd.prog 40 #[.slice a 4 k, .slice (some ⟨w'.heap.size, 0, none⟩) 4 4] (w'.alloc (.cells #[.int .i64 2, .int .i64 3, .int .i64 3, .int .i64 4, .int .i64 0, .int .i64 2, .int .i64 4, .int .i64 5] 25)) fun r w'' => r = .returned (.bool true) ∧ Below w'.heap.size w' w'' := fun a k w' h => by
    have hb := (Below.refl _ w').alloc (Nat.le_refl _) (.cells #[.int .i64 2, .int .i64 3, .int .i64 3, .int .i64 4, .int .i64 0, .int .i64 2, .int .i64 4, .int .i64 5] 25)
    exact (spans_yes [(2, 3), (3, 4), (0, 2), (4, 5)] a (some ⟨w'.heap.size, 0, none⟩) k 4 _ (by decide) (h.below hb (Nat.le_refl _)) (AtP.lit w' [(2, 3), (3, 4), (0, 2), (4, 5)] 25)).mono (fun r w'' h => ⟨h.1, hb.trans (h.2.mono hb.size)⟩)
  have sB : ∀ (a : Option Addr) (k : Nat) (w' : World), AtP w' a [(1, 2), (2, 3), (4, 5)] → Calls Tryd.prog 40 #[.slice a 3 k, .slice (some ⟨w'.heap.size, 0, none⟩) 3 3] (w'.alloc (.cells #[.int .i64 1, .int .i64 2, .int .i64 2, .int .i64 3, .int .i64 4, .int .i64 5] 25)) fun r w'' => r = .returned (.bool true) ∧ Below w'.heap.size w' w'' := fun a k w' h => by
    have hb := (Below.refl _ w').alloc (Nat.le_refl _) (.cells #[.int .i64 1, .int .i64 2, .int .i64 2, .int .i64 3, .int .i64 4, .int .i64 5] 25)
    exact (spans_yes [(1, 2), (2, 3), (4, 5)] a (some ⟨w'.heap.size, 0, none⟩) k 3 _ (by decide) (h.below hb (Nat.le_refl _)) (AtP.lit w' [(1, 2), (2, 3), (4, 5)] 25)).mono (fun r w'' h => ⟨h.1, hb.trans (h.2.mono hb.size)⟩)
  have sU : ∀ (a : Option Addr) (k : Nat) (w' : World), AtP w' a [(0, 1), (4, 5)] → Calls Tryd.prog 40 #[.slice a 2 k, .slice (some ⟨w'.heap.size, 0, none⟩) 2 2] (w'.alloc (.cells #[.int .i64 0, .int .i64 1, .int .i64 4, .int .i64 5] 25)) fun r w'' => r = .returned (.bool true) ∧ Below w'.heap.size w' w'' := fun a k w' h => by
    have hb := (Below.refl _ w').alloc (Nat.le_refl _) (.cells #[.int .i64 0, .int .i64 1, .int .i64 4, .int .i64 5] 25)
    exact (spans_yes [(0, 1), (4, 5)] a (some ⟨w'.heap.size, 0, none⟩) k 2 _ (by decide) (h.below hb (Nat.le_refl _)) (AtP.lit w' [(0, 1), (4, 5)] 25)).mono (fun r w'' h => ⟨h.1, hb.trans (h.2.mono hb.size)⟩)
  have hx := fun w' => hash8_any ⟨#[120]⟩ (by decide) w'
  have hy := fun w' => hash8_any ⟨#[121]⟩ (by decide) w'
  obtain ⟨X, hX⟩ : ∃ X : List UInt8, Hid (Sha.sha (ByteArray.mk #[120]).data.toList = X) := ⟨_, rfl⟩
  obtain ⟨Y, hY⟩ : ∃ Y : List UInt8, Hid (Sha.sha (ByteArray.mk #[121]).data.toList = Y) := ⟨_, rfl⟩
  have lX : X.length = 32 := by rw [← hX.out]; exact Sha.sha_length _
  have lY : Y.length = 32 := by rw [← hY.out]; exact Sha.sha_length _
  rw [hX.out] at hx
  rw [hY.out] at hy
  obtain ⟨D, hD⟩ : ∃ D : ByteArray, Hid (⟨(Tree.nd X Y).toArray⟩ = D) := ⟨_, rfl⟩
  have iF : ∀ (w' w2 : World) (hb : Below w.heap.size w w2) (hK : AtP w2 (some ⟨w'.heap.size, 0, none⟩) [(0, 4), (4, 5)]), Calls Tryd.prog 38 #[.int .i64 5, .slice (some ⟨w'.heap.size, 0, none⟩) 2 2, .slice (some ⟨w2.heap.size, 0, none⟩) 2 2, sg 0 5] (w2.alloc (.cells #[.string ⟨X.toArray⟩, .string ⟨Y.toArray⟩] 9)) fun r w'' => r = .returned (.tuple #[.string D, .int .i64 0]) ∧ Below w2.heap.size w2 w'' := fun w' w2 hb hK => by
    have hb2 := (Below.refl _ w2).alloc (Nat.le_refl _) (.cells #[.string ⟨X.toArray⟩, .string ⟨Y.toArray⟩] 9)
    have hA : At (w2.alloc (.cells #[.string ⟨X.toArray⟩, .string ⟨Y.toArray⟩] 9)) (some ⟨w2.heap.size, 0, none⟩) [X, Y] := Row.at (L := [X, Y]) (heap_alloc_new w2 _)
    have h := foldF_any 5 [(0, 4), (4, 5)] [X, Y] 0 5 (some ⟨w'.heap.size, 0, none⟩) (some ⟨w2.heap.size, 0, none⟩) 2 2 _ (by decide) (by show 2 ≤ 9223372036854775807; omega) (hK.below hb2 (Nat.le_refl _)) hA (Z.t.below (hb.trans (hb2.mono hb.size)) hZ)
    rw [e_fold X Y lX lY, hD.out] at h
    exact h.mono (fun r w'' h => ⟨h.1, hb2.trans (h.2.mono hb2.size)⟩)
  have iN := fun w' => rnode_at (l := X) (r := Y) (n := Tree.nd X Y) (c := 0) (by unfold Hid nodeOf; rw [if_pos ⟨lX, lY⟩]; unfold Tree.nd; rw [if_pos ⟨lX, lY⟩]) w'
  rw [show sv (Tree.nd X Y) = .string D by unfold sv; rw [hD.out]] at iN
  have iI := fun w' => inside_any 5 0 4 w'
  rw [e_ins.1] at iI
  obtain ⟨XB, hXB⟩ : ∃ XB : ByteArray, Hid (⟨X.toArray⟩ = XB) := ⟨_, rfl⟩
  obtain ⟨YB, hYB⟩ : ∃ YB : ByteArray, Hid (⟨Y.toArray⟩ = YB) := ⟨_, rfl⟩
  unfold sv at hx hy iN
  rw [hXB.out] at hx iF iN
  rw [hYB.out] at hy iF iN
  have hDD : (D.toList == D.toList) = true := by simp
  have bb : ∀ {a b c : World}, Below w.heap.size a b → Below b.heap.size b c → w.heap.size ≤ b.heap.size → Below w.heap.size a c := fun h1 h2 h3 => h1.trans (h2.mono h3)
  clear Z HZ lX lY hX hY hD hXB hYB
  go_enter Tryd.func9, Tryd.ntmps9
  go_wp2_with (first
    | (go_at_call 13; refine (iC _ (Below.refl _ _)).mono ?_; rintro r w1 ⟨a1, k1, rfl, P1, b1⟩; have P1 := hid P1; have B1 := hid b1; clear b1)
    | (go_at_call 19; refine (iP _).mono ?_; rintro r w2 ⟨a2, k2, rfl, P2, b2⟩; have P1b := hid (P1.out.below b2 (Nat.le_refl _)); have P2 := hid P2; have B2 := hid (B1.out.trans (b2.mono B1.out.size)); clear b2 P1)
    | (go_at_call 20; refine (iR _).mono ?_; rintro r w3 ⟨a3, k3, rfl, P3, b3⟩; have P1c := hid (P1b.out.below b3 (Nat.le_refl _)); have P2c := hid (P2.out.below b3 (Nat.le_refl _)); have P3 := hid P3; have B3 := hid (B2.out.trans (b3.mono B2.out.size)); clear b3 P1b P2)
    | (go_at_call 21; refine (iB _).mono ?_; rintro r w4 ⟨a4, k4, rfl, P4, b4⟩; have P1d := hid (P1c.out.below b4 (Nat.le_refl _)); have P2d := hid (P2c.out.below b4 (Nat.le_refl _)); have P3d := hid (P3.out.below b4 (Nat.le_refl _)); have P4 := hid P4; have B4 := hid (B3.out.trans (b4.mono B3.out.size)); clear b4 P1c P2c P3)
    | (go_at_call 25; refine (iU _).mono ?_; rintro r w5 ⟨a5, k5, rfl, P5, b5⟩; have P1e := hid (P1d.out.below b5 (Nat.le_refl _)); have P2e := hid (P2d.out.below b5 (Nat.le_refl _)); have P3e := hid (P3d.out.below b5 (Nat.le_refl _)); have P4e := hid (P4.out.below b5 (Nat.le_refl _)); have P5 := hid P5; have B5 := hid (B4.out.trans (b5.mono B4.out.size)); clear b5 P1d P2d P3d P4)
    | (go_at_call 39; refine (sC a1 k1 _ P1e.out).mono ?_; rintro r w6 ⟨rfl, b6⟩; have P2f := hid (P2e.out.below b6 (Nat.le_refl _)); have P3f := hid (P3e.out.below b6 (Nat.le_refl _)); have P4f := hid (P4e.out.below b6 (Nat.le_refl _)); have P5f := hid (P5.out.below b6 (Nat.le_refl _)); have B6 := hid (B5.out.trans (b6.mono B5.out.size)); clear b6 P1e P2e P3e P4e P5)
    | (go_at_call 40; (with_reducible refine (sP a2 k2 _ P2f.out).mono ?_); rintro r w7 ⟨rfl, b7⟩; have P3g := hid (P3f.out.below b7 (Nat.le_refl _)); have P4g := hid (P4f.out.below b7 (Nat.le_refl _)); have P5g := hid (P5f.out.below b7 (Nat.le_refl _)); have B7 := hid (B6.out.trans (b7.mono B6.out.size)); clear b7 P2f P3f P4f P5f)
    | (go_at_call 40; (with_reducible refine (sR a3 k3 _ P3g.out).mono ?_); rintro r w8 ⟨rfl, b8⟩; have P4h := hid (P4g.out.below b8 (Nat.le_refl _)); have P5h := hid (P5g.out.below b8 (Nat.le_refl _)); have B8 := hid (B7.out.trans (b8.mono B7.out.size)); clear b8 P3g P4g P5g)
    | (go_at_call 40; (with_reducible refine (sB a4 k4 _ P4h.out).mono ?_); rintro r w9 ⟨rfl, b9⟩; have P5i := hid (P5h.out.below b9 (Nat.le_refl _)); have B9 := hid (B8.out.trans (b9.mono B8.out.size)); clear b9 P4h P5h)
    | (go_at_call 40; (with_reducible refine (sU a5 k5 _ P5i.out).mono ?_); rintro r w10 ⟨rfl, b10⟩; have B10 := hid (B9.out.trans (b10.mono B9.out.size)); have PL := hid (AtP.lit w10 [(0, 4), (4, 5)] 25); have BL := hid (B10.out.trans (((Below.refl _ w10).alloc (Nat.le_refl _) (.cells (prI [(0, 4), (4, 5)]).toArray 25)).mono B10.out.size)); clear b10 P5i)
    | (go_at_call 31; (with_reducible refine (hx _).mono ?_); rintro r wA ⟨rfl, bA⟩; have PA := hid (PL.out.below bA (Nat.le_refl _)); have BA := hid (BL.out.trans (bA.mono BL.out.size)); clear bA PL)
    | (go_at_call 31; (with_reducible refine (hy _).mono ?_); rintro r wB ⟨rfl, bB⟩; have PB := hid (PA.out.below bB (Nat.le_refl _)); have BB := hid (BA.out.trans (bB.mono BA.out.size)); clear bB PA)
    | (go_at_call 38; refine (iF w10 wB BB.out PB.out).mono ?_; rintro r wC ⟨rfl, bC⟩; have BC := hid (BB.out.trans (bC.mono BB.out.size)); clear bC)
    | (go_at_call 31; (with_reducible refine (hx _).mono ?_); rintro r wE ⟨rfl, bE⟩; have BE := hid (BC.out.trans (bE.mono BC.out.size)); clear bE)
    | (go_at_call 31; (with_reducible refine (hy _).mono ?_); rintro r wF ⟨rfl, bF⟩; have BF := hid (BE.out.trans (bF.mono BE.out.size)); clear bF)
    | (go_at_call 41; refine (iN _).mono ?_; rintro r wG ⟨rfl, bG⟩; have BG := hid (BF.out.trans (bG.mono BF.out.size)); clear bG)
    | (go_at_call 12; refine (iI _).mono ?_; rintro r wH ⟨rfl, bH⟩; have BH := hid (BG.out.trans (bH.mono BG.out.size)); clear bH))
  go_ret
  exact ⟨rfl, BH.out⟩
end Go.Proofs.YtjodbmbadhbblaaDoor


namespace Go.Proofs.YtjodbmbadhbblaaDoor
open Go.RowKit Go.Shelf
namespace Tree
/-- two subtrees: one is within the other, or they share no leaf -/
theorem insF_lam : ∀ (f b n x y x' y' : Nat), 1 ≤ n → insF f b n x y = true → insF f b n x' y' = true → y ≤ x' ∨ y' ≤ x ∨ (x ≤ x' ∧ y' ≤ y) ∨ (x' ≤ x ∧ y ≤ y')
  | 0, _, _, _, _, _, _, _, h, _ => by cases h
  | f + 1, b, n, x, y, x', y', h1, h, h' => by
    have i1 := insF_in _ _ _ _ _ h h1
    have i2 := insF_in _ _ _ _ _ h' h1
    rw [insF] at h h'
    split at h
    · omega
    · split at h'
      · omega
      · split at h
        · cases h
        · rename_i h2
          rw [if_neg h2] at h'
          have s1 := sp_lt (n := n) (by omega)
          have s2 := sp_pos (n := n) (by omega)
          split at h
          · split at h'
            · exact insF_lam f b (sp n) x y x' y' (by omega) h h'
            · split at h'
              · omega
              · cases h'
          · split at h
            · split at h'
              · omega
              · split at h'
                · exact insF_lam f (b + sp n) (n - sp n) x y x' y' (by omega) h h'
                · cases h'
            · cases h
end Tree
set_option maxRecDepth 100000 in
set_option maxHeartbeats 2000000 in
theorem rMiddle_at (b e m : Nat) (h2 : 2 ≤ e - b) (he : e ≤ 1099511627776) (hm : Hid (m = b + Tree.sp (e - b))) (w : World) :
    Calls Tryd.prog 42 #[sg b e] w fun r w' => r = .returned (.int .i64 (m : Int)) ∧ Below w.heap.size w w' := by
  obtain ⟨n, hn⟩ : ∃ n, Hid (e - b = n) := ⟨_, rfl⟩
  have S0 := SpI.new w b e
  have B0 := (Below.refl _ w).alloc (Nat.le_refl _) (.cells #[.int .i64 (b : Int), .int .i64 (e : Int)] 25)
  have c0 := S0.c0
  have c1 := S0.c1
  have hn2 : 2 ≤ n := by rw [← hn.out]; exact h2
  have hn3 : n ≤ 1099511627776 := by have := hn.out; omega
  have q0 : (e : Int) - (b : Int) = (n : Int) := by have := hn.out; omega
  have q1 : IntKind.i64.wrap ((e : Int) - (b : Int)) = (n : Int) := by rw [IntKind.wrap_i64]; omega
  rw [hn.out] at hm
  go_enter Tryd.func42, Tryd.ntmps42
  go_wp2
  clear q0 q1
  go_loopw [4] (fun k w' => ∃ a x : Nat, Hid (2 ^ a = x) ∧ k = .int .i64 (x : Int) ∧ x < n ∧ 0 < x ∧ w' = w.alloc (.cells #[.int .i64 (b : Int), .int .i64 (e : Int)] 25)) (fun k _ => n - (intOf k).toNat)
  case atStart => exact ⟨0, 1, rfl, rfl, by omega, by omega, rfl⟩
  case round =>
    obtain ⟨a, x, hx, rfl, hlt, hpos, rfl⟩ := hrel
    by_cases hk : 2 * (x : Int) < n
    · go_wp2
      exact ⟨⟨a + 1, 2 * x, by rw [Hid, Nat.pow_succ, hx.out, Nat.mul_comm], by go_num, by omega, by omega, trivial⟩, by simp [intOf]; omega⟩
    · have em := hid (show Tree.sp n = x by rw [Tree.sp_one hn2 a (by rw [hx.out]; omega) (by rw [hx.out]; omega), hx.out])
      have q2 : IntKind.i64.wrap ((b : Int) + (x : Int)) = (m : Int) := by rw [hm.out, em.out, IntKind.wrap_i64]; have := hn.out; omega
      go_wp2
      go_ret
      exact ⟨rfl, B0⟩
end Go.Proofs.YtjodbmbadhbblaaDoor

namespace Go.Proofs.YtjodbmbadhbblaaDoor
open Go.RowKit Go.Shelf
theorem SpI.set0 {w : World} {g : Nat} {b e : Int} (h : SpI w g b e) (b' : Int) : SpI (w.setCell ⟨g, 0, none⟩ (.int .i64 b')) g b' e := heap_setCell_same w g 0 _ _ _ h
theorem SpI.set1 {w : World} {g : Nat} {b e : Int} (h : SpI w g b e) (e' : Int) : SpI (w.setCell ⟨g, 1, none⟩ (.int .i64 e')) g b e' := heap_setCell_same w g 1 _ _ _ h
/-- a subtree of [0, n), as values -/
def BelP (n : Nat) (w : World) (r : Ending) (w' : World) : Prop := ∃ b e : Nat, r = .returned (sg b e) ∧ Tree.insF n 0 n b e = true ∧ Below w.heap.size w w'
set_option maxRecDepth 100000 in
set_option maxHeartbeats 4000000 in
theorem below8_any (n : Nat) (way : Int) (hn : 1 ≤ n) (hn2 : n ≤ 1099511627776) (hw1 : -9223372036854775808 ≤ way) (hw2 : way ≤ 9223372036854775807) (w : World) :
    Calls Tryd.prog 11 #[.int .i64 (n : Int), .int .i64 way] w (BelP n w) := by
  have R0 := SpI.new w 0 0
  have b1 := (Below.refl _ w).alloc (Nat.le_refl _) (.cells #[.int .i64 0, .int .i64 0] 25)
  have hbA := (Below.refl _ (w.alloc (.cells #[.int .i64 0, .int .i64 0] 25))).alloc (Nat.le_refl _) (.cells #[.int .i64 0, .int .i64 (n : Int)] 25)
  have S0 := SpI.new (w.alloc (.cells #[.int .i64 0, .int .i64 0] 25)) 0 n
  rw [size_alloc] at S0
  have R1 := hid (R0.below hbA)
  have B1 := hid (b1.trans (hbA.mono b1.size))
  have S0 := hid S0
  clear hbA b1 R0
  go_enter Tryd.func11, Tryd.ntmps11
  go_wp2
  go_loopw [1] (fun v wr => ∃ (x : Int) (b e : Nat), v = .int .i64 x ∧ -9223372036854775808 ≤ x ∧ x ≤ 9223372036854775807 ∧ Hid (Tree.insF n 0 n b e = true) ∧ Hid (SpI wr (w.heap.size + 1) b e) ∧ Hid (SpI wr w.heap.size 0 0) ∧ Hid (Below w.heap.size w wr)) (fun _ wr => memN wr (w.heap.size + 1) 1 - memN wr (w.heap.size + 1) 0)
  case atStart => exact ⟨way, 0, n, rfl, hw1, hw2, by unfold Hid; have := Tree.insF_self (f := n - 1) (b := 0) (n := n); rwa [Nat.zero_add, show n - 1 + 1 = n by omega] at this, S0, R1, B1⟩
  case round =>
    clear S0 R1 B1
    obtain ⟨x, b, e, rfl, hx1, hx2, hI, hS, hR, hB⟩ := hrel
    have hin := Tree.insF_in _ _ _ _ _ hI.out hn
    have c0 := hS.out.c0
    have c1 := hS.out.c1
    have r0 := hR.out.c0
    have r1 := hR.out.c1
    have rf0 := hR.out.f0
    have rf1 := hR.out.f1
    have d1 : memN wr (w.heap.size + 1) 1 = e := by unfold memN; rw [hS.out.c1]; exact Int.toNat_natCast _
    have d0 : memN wr (w.heap.size + 1) 0 = b := by unfold memN; rw [hS.out.c0]; exact Int.toNat_natCast _
    have d1 := hid d1
    have d0 := hid d0
    obtain ⟨L, hL⟩ : ∃ L : Nat, (e : Int) - (b : Int) = (L : Int) := ⟨e - b, by omega⟩
    have hLw : IntKind.i64.wrap ((e : Int) - (b : Int)) = (L : Int) := by rw [IntKind.wrap_i64]; omega
    by_cases hgo : (1 : Int) < x ∧ (1 : Int) < (L : Int)
    · have g1 : (1 : Int) < x := hgo.1
      have g2 : (1 : Int) < (L : Int) := hgo.2
      obtain ⟨m, hm⟩ : ∃ m, Hid (m = b + Tree.sp (e - b)) := ⟨_, rfl⟩
      have s1 := Tree.sp_lt (n := e - b) (by omega)
      have s2 := Tree.sp_pos (n := e - b) (by omega)
      have i1 := rMiddle_at b e m (by omega) (by omega) hm wr
      obtain ⟨p1, p2⟩ := Tree.insF_parts n 0 n b e (Nat.le_refl _) hn hI.out (by omega)
      rw [← hm.out] at p1 p2
      have hme : b < m ∧ m < e := by have := hm.out; omega
      have p1 := hid p1
      have p2 := hid p2
      have f0 := hS.out.f0
      have f1 := hS.out.f1
      clear hgo
      obtain ⟨y, hy⟩ : ∃ y : Int, x.tdiv 2 = y := ⟨_, rfl⟩
      have hy1 : 0 ≤ y ∧ y ≤ x := by
        rw [← hy]
        have := Int.tdiv_eq_ediv_of_nonneg (a := x) (b := 2) (by omega)
        omega
      have hyw : IntKind.i64.wrap y = y := by rw [IntKind.wrap_i64]; omega
      have hB2 : Hid (w.heap.size ≤ w.heap.size + 1) := Nat.le_succ _
      obtain ⟨t, htt⟩ : ∃ t : Int, Int.tmod x 2 = t := ⟨_, rfl⟩
      by_cases ht : t = 0
      · subst ht
        go_wp2_with (go_at_call 42; refine i1.mono ?_; rintro r w2 ⟨rfl, hw2⟩; have S2 := hid (hS.out.below hw2); have R2 := hid (hR.out.below hw2); have B2 := hid (hB.out.trans (hw2.mono hB.out.size)); have t1 := S2.out.c1; have u1 := S2.out.f1; clear hw2)
        have S3 := S2.out.set1 (m : Int)
        refine ⟨⟨y, b, m, by simp, by omega, by omega, p1, S3, R2.out.far (w.heap.size + 1) 1 _ (by omega), B2.out.setCell (p := ⟨w.heap.size + 1, 1, none⟩) hB2.out _⟩, ?_⟩
        have e1 : memN (w2.setCell ⟨w.heap.size + 1, 1, none⟩ (.int .i64 (m : Int))) (w.heap.size + 1) 1 = m := by unfold memN; rw [S3.c1]; exact Int.toNat_natCast _
        have e0 : memN (w2.setCell ⟨w.heap.size + 1, 1, none⟩ (.int .i64 (m : Int))) (w.heap.size + 1) 0 = b := by unfold memN; rw [S3.c0]; exact Int.toNat_natCast _
        rw [e1, e0, d1.out, d0.out]
        omega
      · have ht' : (t == 0) = false := by simpa using ht
        go_wp2_with (go_at_call 42; refine i1.mono ?_; rintro r w2 ⟨rfl, hw2⟩; have S2 := hid (hS.out.below hw2); have R2 := hid (hR.out.below hw2); have B2 := hid (hB.out.trans (hw2.mono hB.out.size)); have t0 := S2.out.c0; have u0 := S2.out.f0; clear hw2)
        have S3 := S2.out.set0 (m : Int)
        refine ⟨⟨y, m, e, by simp, by omega, by omega, p2, S3, R2.out.far (w.heap.size + 1) 0 _ (by omega), B2.out.setCell (p := ⟨w.heap.size + 1, 0, none⟩) hB2.out _⟩, ?_⟩
        have e1 : memN (w2.setCell ⟨w.heap.size + 1, 0, none⟩ (.int .i64 (m : Int))) (w.heap.size + 1) 1 = e := by unfold memN; rw [S3.c1]; exact Int.toNat_natCast _
        have e0 : memN (w2.setCell ⟨w.heap.size + 1, 0, none⟩ (.int .i64 (m : Int))) (w.heap.size + 1) 0 = m := by unfold memN; rw [S3.c0]; exact Int.toNat_natCast _
        rw [e1, e0, d1.out, d0.out]
        omega
    · have U := hR.out.two (b : Int) (e : Int)
      by_cases g1 : (1 : Int) < x
      · have g2 : ¬ (1 : Int) < (L : Int) := fun h => hgo ⟨g1, h⟩
        clear hgo
        go_wp2
        refine bodyPost_ret (v := sg b e) (results_cell_row rfl _ _ w.heap.size 25 #[.int .i64 (b : Int), .int .i64 (e : Int)] (0, 0) _ rfl U Tryd.underlying25 rfl sizeSp8) rfl ?_
        exact ⟨b, e, rfl, hI.out, (hB.out.setCell (p := ⟨w.heap.size, 0, none⟩) (Nat.le_refl _) _).setCell (p := ⟨w.heap.size, 1, none⟩) (Nat.le_refl _) _⟩
      · clear hgo
        go_wp2
        refine bodyPost_ret (v := sg b e) (results_cell_row rfl _ _ w.heap.size 25 #[.int .i64 (b : Int), .int .i64 (e : Int)] (0, 0) _ rfl U Tryd.underlying25 rfl sizeSp8) rfl ?_
        exact ⟨b, e, rfl, hI.out, (hB.out.setCell (p := ⟨w.heap.size, 0, none⟩) (Nat.le_refl _) _).setCell (p := ⟨w.heap.size, 1, none⟩) (Nat.le_refl _) _⟩
end Go.Proofs.YtjodbmbadhbblaaDoor

namespace Go.Proofs.YtjodbmbadhbblaaDoor
open Go.RowKit Go.Shelf
theorem insB_of {n b e : Nat} (hn : 1 ≤ n) (hn2 : n ≤ 1099511627776) (h : Tree.insF n 0 n b e = true) : insB n b e = true := by
  have := Tree.insF_in _ _ _ _ _ h hn
  unfold insB
  rw [Int.toNat_natCast, Int.toNat_natCast, Int.toNat_natCast, h, decide_eq_true (by omega)]; rfl
set_option maxRecDepth 100000 in
set_option maxHeartbeats 8000000 in
theorem inside8_law (size way : Int) (hs1 : -9223372036854775808 ≤ size) (hs2 : size ≤ 9223372036854775807) (hw1 : -9223372036854775808 ≤ way) (hw2 : way ≤ 9223372036854775807) (w : World) (Z : Tb w) :
    Calls Tryd.prog 3 #[.int .i64 size, .int .i64 way] w fun r w' => r = .returned (.bool true) ∧ Below w.heap.size w w' := by
  have i0 := known8_any w Z
  have i1 := fun w' => pick_any size 1099511627776 hs1 hs2 (by omega) (by omega) w'
  have hp0 := pk_nonneg size 1099511627776 (by omega)
  have hp1 := pk_lt size 1099511627776 (by omega)
  generalize pk size 1099511627776 = p at *
  obtain ⟨N, hN⟩ : ∃ N : Nat, 1 + p = (N : Int) := ⟨(1 + p).toNat, by omega⟩
  have hNw : IntKind.i64.wrap (1 + p) = (N : Int) := by rw [IntKind.wrap_i64]; omega
  have n1 : 1 ≤ N := by omega
  have n2 : N ≤ 1099511627776 := by omega
  have i2 := fun w' => below8_any N way n1 n2 hw1 hw2 w'
  clear hp0 hp1
  go_enter Tryd.func3, Tryd.ntmps3
  go_wp2_with (first
    | (go_at_call 9; refine i0.mono ?_; rintro r w1 ⟨rfl, b1⟩)
    | (go_at_call 10; refine (i1 _).mono ?_; rintro r w2 ⟨rfl, rfl⟩)
    | (go_at_call 11; fail))
  refine (i2 _).mono ?_
  rintro r w3 ⟨b, e, rfl, hI, b3⟩
  have hin := Tree.insF_in _ _ _ _ _ hI n1
  have B3 := hid (b1.trans (b3.mono b1.size))
  have j1 := fun w' => inside_any (N : Int) b e w'
  rw [insB_of n1 n2 hI] at j1
  obtain ⟨q2, hq2⟩ : ∃ q2, Hid (insB (N : Int) ((b : Int) + 1) ((e : Int) + 1) = q2) := ⟨_, rfl⟩
  have hno : Hid (2 ≤ e - b → q2 = false) := fun h2 => by
    rw [← hq2.out]
    cases hc : insB (N : Int) ((b : Int) + 1) ((e : Int) + 1) with
    | false => rfl
    | true =>
      unfold insB at hc
      rw [Bool.and_eq_true, Int.toNat_natCast, show ((b : Int) + 1).toNat = b + 1 by omega, show ((e : Int) + 1).toNat = e + 1 by omega] at hc
      have := Tree.insF_lam _ _ _ _ _ _ _ n1 hI hc.2
      omega
  obtain ⟨q3, hq3⟩ : ∃ q3, Hid (insB (N : Int) (b : Int) ((e : Int) + 1) = q3) := ⟨_, rfl⟩
  have hnn : Hid ((N : Int) < (e : Int) + 1 → q3 = false) := fun h2 => by
    rw [← hq3.out]
    cases hc : insB (N : Int) (b : Int) ((e : Int) + 1) with
    | false => rfl
    | true => have := insB_facts hc; omega
  have j2 := fun w' => inside_any (N : Int) ((b : Int) + 1) ((e : Int) + 1) w'
  rw [hq2.out] at j2
  have j3 := fun w' => inside_any (N : Int) (b : Int) ((e : Int) + 1) w'
  rw [hq3.out] at j3
  have j4 := fun w' => inside_any 0 (b : Int) (e : Int) w'
  rw [show insB 0 (b : Int) (e : Int) = false by unfold insB; rw [decide_eq_false (by omega)]; rfl] at j4
  have j5 := fun w' => inside_any 1099511627777 (b : Int) (e : Int) w'
  rw [show insB 1099511627777 (b : Int) (e : Int) = false by unfold insB; rw [decide_eq_false (by omega)]; rfl] at j5
  have u0 : IntKind.i64.wrap ((b : Int) + 1) = (b : Int) + 1 := by rw [IntKind.wrap_i64]; omega
  have u1 : IntKind.i64.wrap ((e : Int) + 1) = (e : Int) + 1 := by rw [IntKind.wrap_i64]; omega
  have S3 := hid (SpI.new w3 b e)
  have c0 := S3.out.c0
  have c1 := S3.out.c1
  have BS := hid (B3.out.trans (((Below.refl _ w3).alloc (Nat.le_refl _) (.cells #[.int .i64 (b : Int), .int .i64 (e : Int)] 25)).mono B3.out.size))
  clear hI b1 b3 Z i0 i1 i2
  obtain ⟨gS, hgS⟩ : ∃ gS, Hid (w3.heap.size = gS) := ⟨_, rfl⟩
  go_wp2_with (go_at_call 12; fail)
  refine (j1 _).mono ?_
  rintro r w4 ⟨rfl, b4⟩
  have S4 := hid (S3.out.below b4)
  have B4 := hid (BS.out.trans (b4.mono BS.out.size))
  have hlt4 := hid (lt_of_heap S4.out)
  rw [hgS.out] at *
  have c0 := S4.out.c0
  have c1 := S4.out.c1
  clear b4 j1
  have hbA := (Below.refl _ w4).alloc (Nat.le_refl _) (.cells #[.int .i64 ((b : Int) + 1), .int .i64 ((e : Int) + 1)] 25)
  have hbB := (Below.refl _ (w4.alloc (.cells #[.int .i64 ((b : Int) + 1), .int .i64 ((e : Int) + 1)] 25))).alloc (Nat.le_refl _) (.cells #[.int .i64 (b : Int), .int .i64 ((e : Int) + 1)] 25)
  have SA := S4.out.below hbA
  have SB := hid (SA.below hbB)
  have AB := hid ((SpI.new w4 ((b : Int) + 1) ((e : Int) + 1)).below hbB)
  have XB := SpI.new (w4.alloc (.cells #[.int .i64 ((b : Int) + 1), .int .i64 ((e : Int) + 1)] 25)) b ((e : Int) + 1)
  rw [size_alloc] at XB
  have XB := hid XB
  have a0 := SA.c0
  have a1 := SA.c1
  have a2 := SB.out.c0
  have a3 := SB.out.c1
  have a4 := AB.out.c0
  have a5 := AB.out.c1
  have a6 := XB.out.c0
  have a7 := XB.out.c1
  have BB := hid (B4.out.trans ((hbA.trans (hbB.mono hbA.size)).mono B4.out.size))
  clear hbA hbB SA
  go_wp2_with (go_at_call 12; fail)
  refine (j2 _).mono ?_
  rintro r w5 ⟨rfl, b5⟩
  have S5 := SB.out.below b5
  have X5 := XB.out.below b5
  have p0 := S5.c0
  have p1 := S5.c1
  have p2 := X5.c0
  have p3 := X5.c1
  have B5 := hid (BB.out.trans (b5.mono BB.out.size))
  have S5 := hid S5
  have X5 := hid X5
  clear j2 b5 a0 a1 a2 a3 a4 a5 a6 a7 c0 c1
  go_wp2_with (go_at_call 12; fail)
  refine (j3 _).mono ?_
  rintro r w6 ⟨rfl, b6⟩
  have S6 := S5.out.below b6
  have X6 := X5.out.below b6
  have r0 := S6.c0
  have r1 := S6.c1
  have r2 := X6.c0
  have r3 := X6.c1
  have B6 := hid (B5.out.trans (b6.mono B5.out.size))
  have S6 := hid S6
  clear j3 b6 p0 p1 p2 p3
  obtain ⟨L, hL⟩ : ∃ L : Nat, (e : Int) - (b : Int) = (L : Int) := ⟨e - b, by omega⟩
  have hLw : IntKind.i64.wrap ((e : Int) - (b : Int)) = (L : Int) := by rw [IntKind.wrap_i64]; omega
  have g1 : Hid ((2 : Int) < (L : Int) → q2 = false) := fun h => hno.out (by omega)
  have fin : ∀ (wx wy wz : World), Below w.heap.size w wx → Below wx.heap.size wx wy → Below wy.heap.size wy wz → Below w.heap.size w wz := fun wx wy wz h1 h2 h3 => (h1.trans (h2.mono h1.size)).trans (h3.mono (h1.trans (h2.mono h1.size)).size)
  by_cases k1 : (2 : Int) < (L : Int)
  · have e2 := g1.out k1
    subst e2
    by_cases k2 : (0 : Int) < (b : Int)
    · by_cases k3 : (N : Int) < (e : Int) + 1
      · have e3 := hnn.out k3
        subst e3
        go_wp2_with (first
          | (go_at_call 12; (with_reducible refine (j4 _).mono ?_); rintro r w7 ⟨rfl, b7⟩; have S7 := S6.out.below b7; have t0 := S7.c0; have t1 := S7.c1)
          | (go_at_call 12; (with_reducible refine (j5 _).mono ?_); rintro r w8 ⟨rfl, b8⟩))
        go_ret
        exact ⟨rfl, fin _ _ _ B6.out b7 b8⟩
      · go_wp2_with (first
          | (go_at_call 12; (with_reducible refine (j4 _).mono ?_); rintro r w7 ⟨rfl, b7⟩; have S7 := S6.out.below b7; have t0 := S7.c0; have t1 := S7.c1)
          | (go_at_call 12; (with_reducible refine (j5 _).mono ?_); rintro r w8 ⟨rfl, b8⟩))
        go_ret
        exact ⟨rfl, fin _ _ _ B6.out b7 b8⟩
    · by_cases k3 : (N : Int) < (e : Int) + 1
      · have e3 := hnn.out k3
        subst e3
        go_wp2_with (first
          | (go_at_call 12; (with_reducible refine (j4 _).mono ?_); rintro r w7 ⟨rfl, b7⟩; have S7 := S6.out.below b7; have t0 := S7.c0; have t1 := S7.c1)
          | (go_at_call 12; (with_reducible refine (j5 _).mono ?_); rintro r w8 ⟨rfl, b8⟩))
        go_ret
        exact ⟨rfl, fin _ _ _ B6.out b7 b8⟩
      · go_wp2_with (first
          | (go_at_call 12; (with_reducible refine (j4 _).mono ?_); rintro r w7 ⟨rfl, b7⟩; have S7 := S6.out.below b7; have t0 := S7.c0; have t1 := S7.c1)
          | (go_at_call 12; (with_reducible refine (j5 _).mono ?_); rintro r w8 ⟨rfl, b8⟩))
        go_ret
        exact ⟨rfl, fin _ _ _ B6.out b7 b8⟩
  · by_cases k3 : (N : Int) < (e : Int) + 1
    · have e3 := hnn.out k3
      subst e3
      go_wp2_with (first
        | (go_at_call 12; (with_reducible refine (j4 _).mono ?_); rintro r w7 ⟨rfl, b7⟩; have S7 := S6.out.below b7; have t0 := S7.c0; have t1 := S7.c1)
        | (go_at_call 12; (with_reducible refine (j5 _).mono ?_); rintro r w8 ⟨rfl, b8⟩))
      go_ret
      exact ⟨rfl, fin _ _ _ B6.out b7 b8⟩
    · go_wp2_with (first
        | (go_at_call 12; (with_reducible refine (j4 _).mono ?_); rintro r w7 ⟨rfl, b7⟩; have S7 := S6.out.below b7; have t0 := S7.c0; have t1 := S7.c1)
        | (go_at_call 12; (with_reducible refine (j5 _).mono ?_); rintro r w8 ⟨rfl, b8⟩))
      go_ret
      exact ⟨rfl, fin _ _ _ B6.out b7 b8⟩
end Go.Proofs.YtjodbmbadhbblaaDoor

namespace Go.Proofs.YtjodbmbadhbblaaDoor
open Go.ChangeShapes Go.WideShapes Go.ChangeAt Go.RowKit
theorem gDB : Tryd.prog.globalNamed "math/bits.deBruijn64tab" = some 1 := by kernel_rfl
theorem gDBType : (Tryd.prog.globals[1]?).map (·.type) = some 142 := by kernel_rfl
theorem cells64b : Tryd.prog.cellsOf 142 = 64 := by kernel_rfl
theorem cells1b : Tryd.prog.cellsOf 5 = 1 := by kernel_rfl
def four : List (String × DataW Unit) := [("math/bits.deBruijn32tab", Rows.laid_math_bits_deBruijn32tab), ("math/bits.deBruijn64tab", Rows.laid_math_bits_deBruijn64tab), ("scrivener/digest.start", Rows.laid_scrivener_digest_start), ("scrivener/digest.rounds", Rows.laid_scrivener_digest_rounds)]
theorem tb_of {W : World} (h : laidMet Tryd.prog four W) : Tb W := by
  have h1 := laidMet.tail h
  have h2 : Lib.TabIs Tryd.prog W "math/bits.deBruijn64tab" .u8 (Lib.deBruijn64tab.map Int.ofNat) :=
    Lib.tabIs_of_head gDB gDBType Tryd.underlying142 Tryd.underlying5 cells1b cells64b (show laidMet Tryd.prog (("math/bits.deBruijn64tab", Lib.tabData .u8 (Lib.deBruijn64tab.map Int.ofNat)) :: _) W from h1)
  refine ⟨tabs_of (laidMet.tail h1), fun j hj => ?_⟩
  have := h2.cell gDB j (by rw [List.length_map]; exact hj)
  rw [this]
  simp [List.getD_eq_getElem?_getD]
  rw [List.getElem?_eq_getElem (show j < Lib.deBruijn64tab.length from hj)]; simp
/-- A WORLD FOR THE WITNESS: all four tables laid. -/
noncomputable def laidWorld5 (os : Os) : World :=
  { laidWorld os with
    heap := ((laidWorld os).heap.modify 0 (fillObj (Lib.deBruijn32tab.map fun n => Value.int .u8 (Int.ofNat n)).toArray)).modify 1 (fillObj (Lib.deBruijn64tab.map fun n => Value.int .u8 (Int.ofNat n)).toArray) }
end Go.Proofs.YtjodbmbadhbblaaDoor
