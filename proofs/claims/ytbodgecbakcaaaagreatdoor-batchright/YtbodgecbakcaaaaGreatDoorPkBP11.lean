import Derived.Test.YtbodgecbakcaaaaGreatDoorPkBP7
import Derived.Test.YtbodgecbakcaaaaGreatDoorPkBR1
import Derived.Test.YtbodgecbakcaaaaGreatDoorPkBL2
import Derived.BigQuiet
import Derived.OwnWalk
import Derived.Test.YtbodgecbakcaaaaGreatDoorPkR5
import Derived.Test.YtbodgecbakcaaaaGreatDoorPkTL11
import Derived.Test.YtbodgecbakcaaaaGreatDoorPkSP18
import Derived.Test.YtbodgecbakcaaaaGreatDoorPkO23
namespace Go.Proofs.YtbodgecbakcaaaaGreatDoor
open Go.RowKit Go.Shelf
namespace Bat
def prvE (k : Nat) (n : Int) (cs : List Int) : Int := if 1 ≤ n ∧ n ≤ (k : Int) then tolE n cs else 121
abbrev bt0 : Value := .agg #[.int .i64 0, .slice none 0 0, .slice none 0 0]
theorem sizeBt : (Tryz.prog.info? 25).map (·.size) = some 3 := by kernel_rfl
theorem BtI.three {w : World} {g : Nat} {n : Int} {vi vh : Value} (h : BtI w g n vi vh) (n' : Int) (vi' vh' : Value) : BtI (((w.setCell ⟨g, 0, none⟩ (.int .i64 n')).setCell ⟨g, 1, none⟩ vi').setCell ⟨g, 2, none⟩ vh') g n' vi' vh' :=
  heap_setCell_same _ g 2 _ _ _ (heap_setCell_same _ g 1 _ _ _ (heap_setCell_same w g 0 _ _ _ h))
theorem below_three {w w' : World} {B g : Nat} (h : Below B w w') (hg : B ≤ g) (a b c : Value) : Below B w (((w'.setCell ⟨g, 0, none⟩ a).setCell ⟨g, 1, none⟩ b).setCell ⟨g, 2, none⟩ c) :=
  Below.setCell (p := ⟨g, 2, none⟩) (Below.setCell (p := ⟨g, 1, none⟩) (Below.setCell (p := ⟨g, 0, none⟩) h hg _) hg _) hg _
set_option maxRecDepth 100000 in
set_option maxHeartbeats 4000000 in
theorem prove12_bad {w : World} {q h : Nat} {L : List (List UInt8)} {F : Nat → Prop} (t : TrL w q h L F) (n : Int) (cs : List Int) (a : Option Addr) (cap : Nat) (hcs : cs.length ≤ 140737488355328) (hA : AtI w a cs) (he : prvE L.length n cs ≠ 0) :
    Calls Tryz.prog 12 #[.pointer (some ⟨q, 0, none⟩), .int .i64 n, .slice a cs.length cap] w fun r w' => r = .returned (.tuple #[bt0, .int .i64 (prvE L.length n cs)]) ∧ Below w.heap.size w w' := by
  have b0 := (Below.refl w.heap.size w).alloc (Nat.le_refl _) (.cells #[.int .i64 0, .slice none 0 0, .slice none 0 0] 25)
  have s0 := BtI.new w 0 (.slice none 0 0) (.slice none 0 0)
  have i1 := tSizeL (t.below b0)
  have i2 := told12_any n cs a cap _ hcs (hA.below b0 (Nat.le_refl _))
  have HS := hid s0
  have B0 := hid b0
  have hc0 := s0.c0
  have hc1 := s0.c1
  have hc2 := s0.c2
  have hf0 : (w.alloc (.cells #[.int .i64 0, .slice none 0 0, .slice none 0 0] 25)).frozen? ⟨w.heap.size, 0, none⟩ = false := frozen_of_row _ _ _ _ _ s0
  have hf1 : (w.alloc (.cells #[.int .i64 0, .slice none 0 0, .slice none 0 0] 25)).frozen? ⟨w.heap.size, 1, none⟩ = false := frozen_of_row _ _ _ _ _ s0
  have hf2 : (w.alloc (.cells #[.int .i64 0, .slice none 0 0, .slice none 0 0] 25)).frozen? ⟨w.heap.size, 2, none⟩ = false := frozen_of_row _ _ _ _ _ s0
  by_cases h1 : 1 ≤ n ∧ n ≤ (L.length : Int)
  · have e : prvE L.length n cs = tolE n cs := by unfold prvE; rw [if_pos h1]
    rw [e] at he ⊢
    have g1 : ¬ n < 1 := by omega
    have g2 : ¬ (L.length : Int) < n := by omega
    have g3 : (tolE n cs != 0) = true := by simpa using he
    generalize tolE n cs = c at *
    generalize batchL n cs = B at *
    generalize cs.length = m at *
    generalize L.length = k at *
    clear t hA b0 s0 e
    go_enter Tryz.func12, Tryz.ntmps12
    go_wp2_with (first
      | (go_at_call 35; refine i1.mono ?_; rintro r w1 ⟨rfl, h0⟩; have h0 := h0.symm; subst h0)
      | (go_at_call 36; refine i2.mono ?_; rintro r w1 ⟨b1, v1, rfl, o1, f1⟩; have B1 := hid (B0.out.trans (b1.mono B0.out.size)); have S1 := hid (HS.out.below b1); have kc0 := S1.out.c0; have kc1 := S1.out.c1; have kc2 := S1.out.c2; have kf0 : w1.frozen? ⟨w.heap.size, 0, none⟩ = false := frozen_of_row _ _ _ _ _ S1.out; have kf1 : w1.frozen? ⟨w.heap.size, 1, none⟩ = false := frozen_of_row _ _ _ _ _ S1.out; have kf2 : w1.frozen? ⟨w.heap.size, 2, none⟩ = false := frozen_of_row _ _ _ _ _ S1.out; clear b1 o1 f1))
    refine bodyPost_ret (results_row_tmp rfl _ _ w.heap.size 25 _ (0, 0) _ rfl (BtI.three S1.out 0 (.slice none 0 0) (.slice none 0 0)) Tryz.underlying25 rfl sizeBt) rfl ⟨rfl, ?_⟩
    exact below_three B1.out (Nat.le_refl _) _ _ _
  · have e : prvE L.length n cs = 121 := by unfold prvE; rw [if_neg h1]
    rw [e]
    clear i2 he e
    generalize cs.length = m at *
    by_cases g1 : n < 1
    · clear i1 h1 t hA b0 s0
      go_enter Tryz.func12, Tryz.ntmps12
      go_wp2
      refine bodyPost_ret (results_row_tmp rfl _ _ w.heap.size 25 _ (0, 0) _ rfl HS.out Tryz.underlying25 rfl sizeBt) rfl ⟨rfl, B0.out⟩
    · have g2 : (L.length : Int) < n := by omega
      generalize L.length = k at *
      clear h1 t hA b0 s0
      go_enter Tryz.func12, Tryz.ntmps12
      go_wp2_with (go_at_call 35; refine i1.mono ?_; rintro r w1 ⟨rfl, h0⟩; have h0 := h0.symm; subst h0)
      refine bodyPost_ret (results_row_tmp rfl _ _ w.heap.size 25 _ (0, 0) _ rfl HS.out Tryz.underlying25 rfl sizeBt) rfl ⟨rfl, B0.out⟩
def tolH (L : List (List UInt8)) (n : Nat) (is : List Nat) : List (List UInt8) := (Tree.othF n 0 n is).map fun s => Tree.root (Til.sg L s.1 s.2)
def PrvP (w : World) (n : Nat) (is : List Nat) (H : List (List UInt8)) (r : Ending) (w' : World) : Prop :=
  ∃ vi g, r = .returned (.tuple #[bt (n : Int) vi (.slice (some ⟨g, 0, none⟩) H.length H.length), .int .i64 0]) ∧ Own w' w.heap.size vi (ivs (ix is)) ∧ Row w' g H ∧ w.heap.size ≤ g ∧ vi.ownBlock ≠ some g ∧ Below w.heap.size w w'
set_option maxRecDepth 100000 in
set_option maxHeartbeats 8000000 in
theorem prove12_ok {w : World} {q h : Nat} {L : List (List UInt8)} {F : Nat → Prop} (t : TrL w q h L F) (Z : Tb w) (n : Nat) (is : List Nat) (hb0 : BatOk (n : Int) (ix is)) (hn : n ≤ L.length) (a : Option Addr) (cap : Nat) (hA : AtI w a (ix is)) :
    Calls Tryz.prog 12 #[.pointer (some ⟨q, 0, none⟩), .int .i64 (n : Int), .slice a is.length cap] w (PrvP w n is (tolH L n is)) := by
  have hil : (ix is).length = is.length := by simp [ix]
  have n1 := hb0.n1
  have n2 := hb0.n2
  have l1 := hb0.l1
  have l2 := hb0.l2
  have hto : toN (ix is) = is := by unfold toN ix; rw [List.map_map]; exact List.map_id'' (fun i => Int.toNat_natCast i) is
  have hE := batchE_ok hb0
  have hT : batchL (n : Int) (ix is) = Tree.othF n 0 n is := by unfold batchL; rw [if_pos hE, hto, Int.toNat_natCast]
  have hup : is.Pairwise (· < ·) := by
    have := hb0.so
    unfold ix at this
    rw [List.pairwise_map] at this
    exact this.imp fun h => by omega
  have hTle : (Tree.othF n 0 n is).length ≤ n := by
    have := Tree.oth_count is (hup.imp fun h e => by omega) n 0 n (Nat.le_refl _) (by omega)
    omega
  obtain ⟨Tn, Ti⟩ := apt_nodup (Tree.othF_apart is n 0 n (by omega) (Nat.le_refl _))
  have hn20 := t.n20
  have b0 := (Below.refl w.heap.size w).alloc (Nat.le_refl _) (.cells #[.int .i64 0, .slice none 0 0, .slice none 0 0] 25)
  have s0 := BtI.new w 0 (.slice none 0 0) (.slice none 0 0)
  have i1 := tSizeL (t.below b0)
  have i2 := told12_any (n : Int) (ix is) a cap _ (by omega) (hA.below b0 (Nat.le_refl _))
  rw [tolE_zero.2 hE, hT, hil] at i2
  have iC := fun w' (hb : Below w.heap.size w w') => cloneI a cap (ix is) w' (hA.below hb (Nat.le_refl _)) l1 (by omega)
  rw [hil] at iC
  unfold tolH
  have hTi : ∀ s ∈ Tree.othF n 0 n is, s.1 ≤ s.2 ∧ s.2 ≤ L.length := fun s hs => by have := Ti s hs; omega
  generalize Tree.othF n 0 n is = S at *
  have HT := hid t
  have HZ := hid Z
  have hZl := Z.lt
  have HTI := hid hTi
  have HS := hid s0
  have B0 := hid b0
  obtain ⟨k, hk⟩ : ∃ k, S.length = k := ⟨_, rfl⟩
  have Hk := hid hk
  rw [hk] at hTle
  have mk := fun w' => make_texts w' k (by omega)
  have g1 : ¬ (n : Int) < 1 := by omega
  have g2 : ¬ (L.length : Int) < (n : Int) := by omega
  clear t Z hb0 hA hil l1 l2 hto hE hT hup Tn Ti b0 s0 hTi hk
  go_enter Tryz.func12, Tryz.ntmps12
  go_wp2_with (first
    | (go_at_call 35; refine i1.mono ?_; rintro r w1 ⟨rfl, h0⟩; have h0 := h0.symm; subst h0)
    | (go_at_call 36; refine i2.mono ?_; rintro r w1 ⟨b1, v1, rfl, o1, f1⟩; obtain ⟨a1, c1, rfl, q1, q2⟩ := OwnM.shape o1; have B1 := hid (B0.out.trans (b1.mono B0.out.size)); have S1 := hid (HS.out.below b1); have O1 := hid o1; have mk1 := mk w1; rw [Hk.out]; clear b1 o1 f1))
  have R0 : Hid (Row (w1.alloc (.cells (svs (List.replicate k [])).toArray 9)) w1.heap.size (vpre (fun s : Nat × Nat => Tree.root (Til.sg L s.1 s.2)) S 0)) := by
    have := heap_alloc_new w1 (.cells (svs (List.replicate k [])).toArray 9)
    unfold Hid Row
    rw [vpre_zero, Hk.out]
    exact this
  have BA := hid ((Below.refl w1.heap.size w1).alloc (Nat.le_refl _) (.cells (svs (List.replicate k [])).toArray 9))
  have hgl := lt_of_heap S1.out
  have z1 := B1.out.size
  clear mk mk1 i1 i2 HS B0
  go_loopw [11, 12, 37] (fun _ _ i w' => ∃ j : Nat, j ≤ k ∧ i = .int .i64 (j : Int) ∧ Hid (Row w' w1.heap.size (vpre (fun s : Nat × Nat => Tree.root (Til.sg L s.1 s.2)) S j)) ∧ Hid (Below w1.heap.size w1 w')) (fun _ _ i _ => k - (intOf i).toNat)
  case atStart => exact ⟨0, by omega, rfl, R0, BA⟩
  case round =>
    clear R0 BA
    obtain ⟨j, hj, rfl, hR, hB⟩ := hrel
    have BW := hid (B1.out.trans (hB.out.mono z1))
    by_cases hjk : j < k
    · have b0 : (j : Int) < (k : Int) := by omega
      have j0 : (0 : Int) ≤ (j : Int) := by omega
      have hjS : j < S.length := by rw [Hk.out]; exact hjk
      obtain ⟨g, rfl, hg, c0, c1'⟩ := ownP_at (O1.out.below hB.out) (List.getElem?_eq_getElem hjS)
      have hs := HTI.out S[j] (List.getElem_mem hjS)
      have hset := hid (vpre_set (fun s : Nat × Nat => Tree.root (Til.sg L s.1 s.2)) S hjS)
      have hlen := vpre_len (fun s : Nat × Nat => Tree.root (Til.sg L s.1 s.2)) S (Nat.le_of_lt hjS)
      have HX : Hid (tPartO L (S[j].1 : Int) (S[j].2 : Int) = (Tree.root (Til.sg L S[j].1 S[j].2), 0)) := tPartO_nat hs.1 hs.2
      have hbs := (Below.refl wr.heap.size wr).alloc (Nat.le_refl _) (.cells #[.int .i64 (S[j].1 : Int), .int .i64 (S[j].2 : Int)] 62)
      have s0 := SpI.new wr (S[j].1 : Int) (S[j].2 : Int)
      have sc0 := s0.c0
      have sc1 := s0.c1
      have b1 := BW.out.trans (hbs.mono BW.out.size)
      have R1 := hR.out.below hbs hR.out.lt
      have i1 := tPart_any (HT.out.below b1) (S[j].1 : Int) (S[j].2 : Int) (HZ.out.below b1 hZl) HX
      have b2 := hid (hB.out.trans (hbs.mono hB.out.size))
      generalize (S[j].1 : Int) = x0 at *
      generalize (S[j].2 : Int) = x1 at *
      generalize Tree.root (Til.sg L S[j].1 S[j].2) = r at *
      rw [show sv r = Value.string ⟨r.toArray⟩ from rfl] at i1
      have HR1 := hid R1
      clear hs HX hbs s0 hR hB b1 R1
      go_wp2_with (go_at_call 37; refine i1.mono ?_; rintro e w2 ⟨rfl, b3⟩; have B3 := hid b3; have R2 := hid (HR1.out.below b3 HR1.out.lt); clear b3; have f2 := R2.out.free (j := j) (by rw [hlen, Hk.out]; exact hjk); have d2 := R2.out.cell (List.getElem?_eq_getElem (show j < (vpre (fun s : Nat × Nat => Tree.root (Til.sg L s.1 s.2)) S j).length by rw [hlen, Hk.out]; exact hjk)))
      refine ⟨⟨j + 1, by omega, by go_num, ?_, ?_⟩, by simp [intOf]; omega⟩
      · have := R2.out.set j r
        rw [hset.out] at this
        exact this
      · exact Below.setCell (p := ⟨w1.heap.size, j, none⟩) (b2.out.trans (B3.out.mono b2.out.size)) (Nat.le_refl _) _
    · obtain rfl : j = k := by omega
      have b0 : ¬ (j : Int) < (j : Int) := by omega
      have i3 := iC _ BW.out
      have RW := hR.out
      rw [← Hk.out, vpre_all] at RW
      have HRW := hid RW
      have hlm := hid (show (List.map (fun s : Nat × Nat => Tree.root (Til.sg L s.1 s.2)) S).length = j by rw [List.length_map]; exact Hk.out)
      have SW : Hid (BtI wr w.heap.size 0 (.slice none 0 0) (.slice none 0 0)) := (hB.out.block w.heap.size hgl).trans S1.out
      have hgr : w1.heap.size < wr.heap.size := hR.out.lt
      clear iC RW hR
      go_wp2_with (go_at_call 38; refine i3.mono ?_; rintro e w2 ⟨v2, rfl, o2, b2⟩; obtain ⟨va, vc, hv2, _, _, _⟩ := Own.atI o2; subst hv2; have B2 := hid (BW.out.trans (b2.mono BW.out.size)); have S2 := hid (BtI.below SW.out b2); have R2 := hid (HRW.out.below b2 hgr); have O2 := hid o2; have kc0 := S2.out.c0; have kc1 := S2.out.c1; have kc2 := S2.out.c2; have kf0 : w2.frozen? ⟨w.heap.size, 0, none⟩ = false := frozen_of_row _ _ _ _ _ S2.out; have kf1 : w2.frozen? ⟨w.heap.size, 1, none⟩ = false := frozen_of_row _ _ _ _ _ S2.out; have kf2 : w2.frozen? ⟨w.heap.size, 2, none⟩ = false := frozen_of_row _ _ _ _ _ S2.out; clear b2 o2)
      have q1' : Below w.heap.size w2 _ := below_three (Below.refl w.heap.size w2) (Nat.le_refl w.heap.size) (.int .i64 (n : Int)) (.slice va (ix is).length vc) (.slice (some ⟨w1.heap.size, 0, none⟩) j j)
      have hk1 : Keep (fun k => k = w.heap.size) w2 (((w2.setCell ⟨w.heap.size, 0, none⟩ (.int .i64 (n : Int))).setCell ⟨w.heap.size, 1, none⟩ (.slice va (ix is).length vc)).setCell ⟨w.heap.size, 2, none⟩ (.slice (some ⟨w1.heap.size, 0, none⟩) j j)) :=
        ((Keep.ofSet (S := fun k => k = w.heap.size) w2 w.heap.size 0 _ rfl).trans (Keep.ofSet (S := fun k => k = w.heap.size) _ w.heap.size 1 _ rfl) fun _ _ e => e).trans (Keep.ofSet (S := fun k => k = w.heap.size) _ w.heap.size 2 _ rfl) fun _ _ e => e
      have hwr := BW.out.size
      refine bodyPost_ret (results_row_tmp rfl _ _ w.heap.size 25 _ (0, 0) _ rfl (BtI.three S2.out (n : Int) (.slice va (ix is).length vc) (.slice (some ⟨w1.heap.size, 0, none⟩) j j)) Tryz.underlying25 rfl sizeBt) rfl ⟨.slice va (ix is).length vc, w1.heap.size, by rw [hlm.out]; rfl, ?_, ?_, by omega, ?_, ?_⟩
      · refine (O2.out.mono (base' := w.heap.size) (by omega)).keep hk1 fun k hk e => ?_
        have := O2.out.ge k hk
        omega
      · unfold Row
        rw [hk1.block w1.heap.size R2.out.lt (by omega)]
        exact R2.out
      · intro e
        have := O2.out.ge w1.heap.size e
        omega
      · exact B2.out.trans q1'
end Bat
end Go.Proofs.YtbodgecbakcaaaaGreatDoor

namespace Go.Proofs.YtbodgecbakcaaaaGreatDoor
open Go.RowKit Go.Shelf
namespace Bat
def askE (last : Int) (n : Int) (l : List Int) : Int := if 1 ≤ n ∧ n ≤ last then (if rightB n l = true then 0 else 120) else 121
set_option maxRecDepth 100000 in
set_option maxHeartbeats 2000000 in
theorem asked_any (n last : Int) (l : List Int) (hl : l.length ≤ 9223372036854775807) (hin : ∀ c ∈ l, -9223372036854775808 ≤ c ∧ c ≤ 9223372036854775807) (a : Option Addr) (ca : Nat) (w : World) (hA : AtI w a l) :
    Calls Tryz.prog 59 #[.int .i64 n, .int .i64 last, .slice a l.length ca] w fun r w' => r = .returned (.int .i64 (askE last n l)) ∧ Below w.heap.size w w' := by
  have i1 := rright_any n l hl hin a ca w hA
  by_cases h : 1 ≤ n ∧ n ≤ last
  · have g1 : ¬ n < 1 := by omega
    have g2 : ¬ last < n := by omega
    cases hr : rightB n l with
    | true =>
      have e : askE last n l = 0 := by unfold askE; rw [if_pos h, if_pos hr]
      rw [e]
      rw [hr] at i1
      generalize l.length = m at *
      clear hA hin e h
      go_enter Tryz.func59, Tryz.ntmps59
      go_wp2_with (go_at_call 79; refine i1.mono ?_; rintro r w1 ⟨rfl, b1⟩; have B1 := hid b1; clear b1)
      go_ret
      exact ⟨rfl, B1.out⟩
    | false =>
      have e : askE last n l = 120 := by unfold askE; rw [if_pos h, if_neg (by rw [hr]; simp)]
      rw [e]
      rw [hr] at i1
      generalize l.length = m at *
      clear hA hin e h
      go_enter Tryz.func59, Tryz.ntmps59
      go_wp2_with (go_at_call 79; refine i1.mono ?_; rintro r w1 ⟨rfl, b1⟩; have B1 := hid b1; clear b1)
      go_ret
      exact ⟨rfl, B1.out⟩
  · have e : askE last n l = 121 := by unfold askE; rw [if_neg h]
    rw [e]
    generalize l.length = m at *
    by_cases g1 : n < 1
    · clear i1 hA hin e h
      go_enter Tryz.func59, Tryz.ntmps59
      go_wp2
      go_ret
      exact ⟨rfl, Below.refl _ _⟩
    · have g2 : last < n := by omega
      clear i1 hA hin e h
      go_enter Tryz.func59, Tryz.ntmps59
      go_wp2
      go_ret
      exact ⟨rfl, Below.refl _ _⟩
theorem askE_most (n : Int) (l : List Int) : askE 1099511627776 n l = tolE n l := by rw [tolE_is]; rfl
end Bat
end Go.Proofs.YtbodgecbakcaaaaGreatDoor

namespace Go.Proofs.YtbodgecbakcaaaaGreatDoor
open Go.RowKit Go.Shelf
namespace Bat
structure Wk (w0 w : World) (g : Nat) (H L : List (List UInt8)) : Prop where
  ex : ∃ aH cH aL cL, w.heap[g]? = some (.cells #[.slice aH H.length cH, .slice aL L.length cL] 84 (0, 0)) ∧ H.length ≤ cH ∧ cH ≤ 9223372036854775807 ∧ L.length ≤ cL ∧ cL ≤ 9223372036854775807 ∧ At w0 aH H ∧ At w0 aL L
theorem Wk.lt {w0 w : World} {g : Nat} {H L : List (List UInt8)} (h : Wk w0 w g H L) : g < w.heap.size := by
  obtain ⟨_, _, _, _, h, _⟩ := h
  exact lt_of_heap h
theorem Wk.below {w0 w w' : World} {g : Nat} {H L : List (List UInt8)} (h : Wk w0 w g H L) (hb : Below w.heap.size w w') : Wk w0 w' g H L := by
  have := h.lt
  obtain ⟨aH, cH, aL, cL, h, r⟩ := h
  exact ⟨aH, cH, aL, cL, (hb.block g this).trans h, r⟩
theorem wit_cut {is : List Nat} (hp : is.Pairwise (· < ·)) {b m e : Nat} (h1 : b ≤ m) (h2 : m ≤ e) : Tree.wit is b e = Tree.wit is b m ++ Tree.wit is m e := by
  induction is with
  | nil => rfl
  | cons i is ih =>
    obtain ⟨p1, p2⟩ := List.pairwise_cons.1 hp
    have ih := ih p2
    unfold Tree.wit at *
    rw [List.filter_cons, List.filter_cons, List.filter_cons]
    by_cases c1 : b ≤ i ∧ i < m
    · rw [if_pos (by simp; omega), if_pos (by simp; omega), if_neg (by simp; omega), ih]; rfl
    · by_cases c2 : m ≤ i ∧ i < e
      · have hn : is.filter (fun i => decide (b ≤ i ∧ i < m)) = [] := by
          rw [List.filter_eq_nil_iff]
          intro x hx
          have := p1 x hx
          simp
          omega
        rw [if_pos (by simp; omega), if_neg (by simp; omega), if_pos (by simp; omega), ih, hn]; rfl
      · rw [if_neg (by simp; omega), if_neg (by simp; omega), if_neg (by simp; omega), ih]
theorem wit_single {is : List Nat} (hp : is.Pairwise (· < ·)) {b : Nat} (h : Tree.tch is b (b + 1) = true) : Tree.wit is b (b + 1) = [b] := by
  have hl := Tree.wit_one (hp.imp (fun h => Nat.ne_of_lt h)) b
  have hn := Tree.wit_ne h
  cases hw : Tree.wit is b (b + 1) with
  | nil => exact absurd hw hn
  | cons x r =>
    rw [hw] at hl
    have hr : r = [] := List.eq_nil_of_length_eq_zero (by simpa using hl)
    have hx : x ∈ Tree.wit is b (b + 1) := by rw [hw]; exact List.mem_cons_self
    unfold Tree.wit at hx
    have := (List.mem_filter.1 hx).2
    simp at this
    rw [hr, show x = b by omega]
theorem wit_up {is : List Nat} (hp : is.Pairwise (· < ·)) (b e : Nat) : (Tree.wit is b e).Pairwise (· < ·) := hp.filter _
set_option maxRecDepth 100000 in
set_option maxHeartbeats 4000000 in
theorem rhash12_any (w0 : World) (g : Nat) (hg : w0.heap.size ≤ g) (val : Nat × Nat → List UInt8) : ∀ (f b m : Nat) (l : List Nat) (a : Option Addr) (ca : Nat) (w : World) (H L : List (List UInt8)), 1 ≤ m → m ≤ f → b + m ≤ 1099511627776 → l.length ≤ 256 → l.Pairwise (· < ·) → AtI w a (ix l) →
    (∀ b m, 2 ≤ m → Tree.tch l b (b + m) = true → val (b, b + m) = Tree.nd (val (b, b + Tree.sp m)) (val (b + Tree.sp m, b + m))) → Below w0.heap.size w0 w → Wk w0 w g ((Tree.othF f b m l).map val ++ H) ((Tree.wit l b (b + m)).map (fun i => val (i, i + 1)) ++ L) →
    Calls Tryz.prog 43 #[.pointer (some ⟨g, 0, none⟩), .slice a l.length ca, .int .i64 (b : Int), .int .i64 ((b + m : Nat) : Int)] w fun r w' => r = .returned (sv (val (b, b + m))) ∧ Wk w0 w' g H L ∧ Keep (fun k => k = g) w w' := by
  intro f
  induction f with
  | zero => intro b m l a ca w H L h1 h2; omega
  | succ f ih =>
    intro b m l a ca w H L h1 h2 h3 hl hp hA hv hB hW
    have i1 := within12_any l b (b + m) hl a ca w hA
    cases ht : Tree.tch l b (b + m) with
    | false =>
      rw [Tree.wit_nil ht] at i1 hW
      rw [Tree.othF_no ht] at hW
      generalize b + m = e at *
      have hgl := hW.lt
      obtain ⟨aH, cH, aL, cL, hr, q1, q2, q3, q4, q5, q6⟩ := hW
      simp only [List.map_cons, List.map_nil, List.cons_append, List.nil_append] at hr q1 q3 q5 q6
      generalize val (b, e) = y at *
      obtain ⟨x, rfl⟩ := q5.pos (by simp)
      obtain ⟨x', hx', xb, xc⟩ := q5 0 y rfl
      obtain rfl := Option.some.inj hx'
      have Q5 := hid (q5.drop 1)
      rw [List.drop_succ_cons, List.drop_zero] at Q5
      rw [List.length_cons] at hr q1
      rw [show sv y = Value.string ⟨y.toArray⟩ from rfl] at xc ⊢
      have HR := hid hr
      have HB := hid hB
      have Q6 := hid q6
      obtain ⟨nH, hnH⟩ : ∃ n, H.length = n := ⟨_, rfl⟩
      obtain ⟨nL, hnL⟩ : ∃ n, L.length = n := ⟨_, rfl⟩
      have EH := hid hnH
      have EL := hid hnL
      rw [hnH] at HR q1
      rw [hnL] at HR q3
      clear hA ih ht hr hB q5 q6 hx' hv hnH hnL
      go_enter Tryz.func43, Tryz.ntmps43
      go_wp2_with (go_at_call 31; fail)
      with_reducible refine i1.mono ?_
      rintro r w1 ⟨v1, rfl, o1, b1⟩
      obtain ⟨a1, c1, hv1, _, _, _⟩ := Own.atI o1
      subst hv1
      simp only [show (ix []).length = 0 from rfl]
      have R1 : w1.heap[g]? = some (.cells #[.slice (some x) (nH + 1) cH, .slice aL nL cL] 84 (0, 0)) := (b1.block g hgl).trans HR.out
      have k0 : w1.cell? ⟨g, 0, none⟩ = some (.slice (some x) (nH + 1) cH) := by rw [cell_of_row _ _ _ _ _ _ R1]; rfl
      have k1 : w1.frozen? ⟨g, 0, none⟩ = false := frozen_of_row _ _ _ _ _ R1
      have k2 : w1.cell? (x.add 0) = some (.string ⟨y.toArray⟩) := ((HB.out.trans (b1.mono HB.out.size)).cell (by rw [addr_block]; exact xb)).trans xc
      have k3 : w1.cell? x = some (.string ⟨y.toArray⟩) := k2
      have l0 : (0 : Int) < (nH : Int) + 1 := by omega
      have l1 : (1 : Int) ≤ (nH : Int) + 1 := by omega
      have HR1 := hid R1
      have HB1 := hid b1
      clear o1 b1 R1
      have F1 : ∀ (v : Value), (w1.setCell ⟨g, 0, none⟩ v).heap[g]? = some (.cells #[v, .slice aL nL cL] 84 (0, 0)) := fun v => heap_setCell_same w1 g 0 _ _ v HR1.out
      have HF := hid F1
      have KK : ∀ v, Hid (Keep (fun k => k = g) w (w1.setCell ⟨g, 0, none⟩ v)) := fun v => (Keep.ofBelow (S := fun k => k = g) HB1.out).trans (Keep.ofSet (S := fun k => k = g) _ g 0 _ rfl) (fun _ _ e => e)
      clear F1 HR1 HB1
      by_cases hc : cH - 1 = 0
      · have hH0 : H = [] := List.eq_nil_of_length_eq_zero (by rw [EH.out]; omega)
        go_wp2
        go_ret
        exact ⟨rfl, ⟨some x, 0, aL, cL, by rw [EH.out, EL.out]; exact HF.out _, by rw [EH.out]; omega, by omega, by rw [EL.out]; exact q3, q4, by rw [hH0]; exact At.nil _ _, Q6.out⟩, (KK _).out⟩
      · go_wp2
        go_ret
        exact ⟨rfl, ⟨some (x.add 1), cH - 1, aL, cL, by rw [EH.out, EL.out]; exact HF.out _, by rw [EH.out]; omega, by omega, by rw [EL.out]; exact q3, q4, Q5.out, Q6.out⟩, (KK _).out⟩
    | true =>
      have hwl : (Tree.wit l b (b + m)).length ≤ 256 := Nat.le_trans (List.length_filter_le _ _) hl
      have hwn := Tree.wit_ne ht
      by_cases hm : m < 2
      · obtain rfl : m = 1 := by omega
        rw [Tree.othF_one ht (by omega), wit_single hp ht] at hW
        simp only [List.map_cons, List.map_nil, List.cons_append, List.nil_append] at hW
        have hz : (((Tree.wit l b (b + 1)).length : Int) == 0) = false := by simpa using hwn
        have hix : (ix (Tree.wit l b (b + 1))).length = (Tree.wit l b (b + 1)).length := by simp [ix]
        have hsb : ((b + 1 : Nat) : Int) - (b : Int) = 1 := by omega
        have hsw : IntKind.i64.wrap (((b + 1 : Nat) : Int) - (b : Int)) = 1 := by rw [hsb, IntKind.wrap_i64]; omega
        generalize b + 1 = e at *
        generalize (Tree.wit l b e).length = q at *
        have hgl := hW.lt
        obtain ⟨aH, cH, aL, cL, hr, q1, q2, q3, q4, q5, q6⟩ := hW
        generalize val (b, e) = y at *
        obtain ⟨x, rfl⟩ := q6.pos (by simp)
        obtain ⟨x', hx', xb, xc⟩ := q6 0 y rfl
        obtain rfl := Option.some.inj hx'
        have Q6 := hid (q6.drop 1)
        rw [List.drop_succ_cons, List.drop_zero] at Q6
        rw [List.length_cons] at hr q3
        rw [show sv y = Value.string ⟨y.toArray⟩ from rfl] at xc ⊢
        have HR := hid hr
        have HB := hid hB
        have Q5 := hid q5
        obtain ⟨nH, hnH⟩ : ∃ n, H.length = n := ⟨_, rfl⟩
        obtain ⟨nL, hnL⟩ : ∃ n, L.length = n := ⟨_, rfl⟩
        have EH := hid hnH
        have EL := hid hnL
        rw [hnH] at HR q1
        rw [hnL] at HR q3
        clear hA ih ht hr hB q5 q6 hx' hv hnH hnL
        go_enter Tryz.func43, Tryz.ntmps43
        go_wp2_with (go_at_call 31; fail)
        with_reducible refine i1.mono ?_
        rintro r w1 ⟨v1, rfl, o1, b1⟩
        obtain ⟨a1, c1, hv1, _, _, _⟩ := Own.atI o1
        subst hv1
        rw [hix]
        have R1 : w1.heap[g]? = some (.cells #[.slice aH nH cH, .slice (some x) (nL + 1) cL] 84 (0, 0)) := (b1.block g hgl).trans HR.out
        have k0 : w1.cell? ⟨g, 1, none⟩ = some (.slice (some x) (nL + 1) cL) := by rw [cell_of_row _ _ _ _ _ _ R1]; rfl
        have k1 : w1.frozen? ⟨g, 1, none⟩ = false := frozen_of_row _ _ _ _ _ R1
        have k2 : w1.cell? (x.add 0) = some (.string ⟨y.toArray⟩) := ((HB.out.trans (b1.mono HB.out.size)).cell (by rw [addr_block]; exact xb)).trans xc
        have k3 : w1.cell? x = some (.string ⟨y.toArray⟩) := k2
        have l0 : (0 : Int) < (nL : Int) + 1 := by omega
        have l1 : (1 : Int) ≤ (nL : Int) + 1 := by omega
        have HR1 := hid R1
        have HB1 := hid b1
        clear o1 b1 R1
        have F1 : ∀ (v : Value), (w1.setCell ⟨g, 1, none⟩ v).heap[g]? = some (.cells #[.slice aH nH cH, v] 84 (0, 0)) := fun v => heap_setCell_same w1 g 1 _ _ v HR1.out
        have HF := hid F1
        have KK : ∀ v, Hid (Keep (fun k => k = g) w (w1.setCell ⟨g, 1, none⟩ v)) := fun v => (Keep.ofBelow (S := fun k => k = g) HB1.out).trans (Keep.ofSet (S := fun k => k = g) _ g 1 _ rfl) (fun _ _ e => e)
        clear F1 HR1 HB1
        by_cases hc : cL - 1 = 0
        · have hH0 : L = [] := List.eq_nil_of_length_eq_zero (by rw [EL.out]; omega)
          go_wp2
          go_ret
          exact ⟨rfl, ⟨aH, cH, some x, 0, by rw [EH.out, EL.out]; exact HF.out _, by rw [EH.out]; exact q1, q2, by rw [EL.out]; omega, by omega, Q5.out, by rw [hH0]; exact At.nil _ _⟩, (KK _).out⟩
        · go_wp2
          go_ret
          exact ⟨rfl, ⟨aH, cH, some (x.add 1), cL - 1, by rw [EH.out, EL.out]; exact HF.out _, by rw [EH.out]; exact q1, q2, by rw [EL.out]; omega, by omega, Q5.out, Q6.out⟩, (KK _).out⟩
      · have s1 := Tree.sp_lt (n := m) (by omega)
        have s2 := Tree.sp_pos (n := m) (by omega)
        have hz : (((Tree.wit l b (b + m)).length : Int) == 0) = false := by simpa using hwn
        have hix : (ix (Tree.wit l b (b + m))).length = (Tree.wit l b (b + m)).length := by simp [ix]
        have hsb : IntKind.i64.wrap (((b + m : Nat) : Int) - (b : Int)) = (m : Int) := by rw [IntKind.wrap_i64]; omega
        have hsb' : ((b + m : Nat) : Int) - (b : Int) = (m : Int) := by omega
        have hm1 : ((m : Int) == 1) = false := by simp; omega
        have iS := fun w' => rsplit_any (m : Int) (by omega) (by omega) w'
        rw [show spI (m : Int) = ((Tree.sp m : Nat) : Int) from rfl] at iS
        have e1 := oth_wit (l := l) (B := b) (E := b + m) f b (Tree.sp m) (Nat.le_refl _) (by omega)
        have e2 := oth_wit (l := l) (B := b) (E := b + m) f (b + Tree.sp m) (m - Tree.sp m) (by omega) (by omega)
        have x1 := wit_wit (l := l) (b := b) (e := b + m) (x := b) (y := b + Tree.sp m) (Nat.le_refl _) (by omega)
        have x2 := wit_wit (l := l) (b := b) (e := b + m) (x := b + Tree.sp m) (y := b + m) (by omega) (Nat.le_refl _)
        have hvI : ∀ b' m', 2 ≤ m' → Tree.tch (Tree.wit l b (b + m)) b' (b' + m') = true → val (b', b' + m') = Tree.nd (val (b', b' + Tree.sp m')) (val (b' + Tree.sp m', b' + m')) := fun b' m' h h' => hv b' m' h (by
          obtain ⟨i, hi, h5, h6⟩ := Tree.tch_mem.1 h'
          exact Tree.tch_mem.2 ⟨i, (List.mem_filter.1 hi).1, h5, h6⟩)
        have c1 := fun (a' : Option Addr) (c' : Nat) w' H' L' (h : AtI w' a' (ix (Tree.wit l b (b + m)))) => ih b (Tree.sp m) (Tree.wit l b (b + m)) a' c' w' H' L' (by omega) (by omega) (by omega) hwl (wit_up hp b (b + m)) h hvI
        have c2 := fun (a' : Option Addr) (c' : Nat) w' H' L' (h : AtI w' a' (ix (Tree.wit l b (b + m)))) => ih (b + Tree.sp m) (m - Tree.sp m) (Tree.wit l b (b + m)) a' c' w' H' L' (by omega) (by omega) (by omega) hwl (wit_up hp b (b + m)) h hvI
        rw [show b + Tree.sp m + (m - Tree.sp m) = b + m by omega] at c2
        rw [e1, x1] at c1
        rw [e2, x2] at c2
        rw [Tree.othF_two ht (by omega), wit_cut hp (show b ≤ b + Tree.sp m by omega) (show b + Tree.sp m ≤ b + m by omega), List.map_append, List.map_append, List.append_assoc, List.append_assoc] at hW
        have hval := hv b m (by omega) ht
        obtain ⟨cN, hN⟩ : ∃ c, Hid (nodeOf (val (b, b + Tree.sp m)) (val (b + Tree.sp m, b + m)) = (val (b, b + m), c)) := ⟨(nodeOf (val (b, b + Tree.sp m)) (val (b + Tree.sp m, b + m))).2, Prod.ext (by rw [hval]; exact nodeOf_nd _ _) rfl⟩
        have iN := fun w' => rnode_at hN w'
        have hkw : IntKind.i64.wrap ((b : Int) + ((Tree.sp m : Nat) : Int)) = ((b + Tree.sp m : Nat) : Int) := by rw [IntKind.wrap_i64]; omega
        have hgl := hW.lt
        generalize (Tree.othF f b (Tree.sp m) l).map val = X at *
        generalize (Tree.othF f (b + Tree.sp m) (m - Tree.sp m) l).map val = Y at *
        generalize (Tree.wit l b (b + Tree.sp m)).map (fun i => val (i, i + 1)) = U at *
        generalize (Tree.wit l (b + Tree.sp m) (b + m)).map (fun i => val (i, i + 1)) = V at *
        generalize hS : b + Tree.sp m = kk at *
        generalize Tree.sp m = sm at *
        obtain ⟨e, he⟩ : ∃ e, b + m = e := ⟨_, rfl⟩
        rw [he] at i1 c1 c2 hz hix hsb hsb' iN ⊢
        generalize val (b, e) = v0 at *
        generalize val (b, kk) = v1' at *
        generalize val (kk, e) = v2' at *
        generalize Tree.wit l b e = I at *
        have hkk : (b : Int) + (sm : Int) = (kk : Int) := by omega
        have HW := hid hW
        have HB := hid hB
        clear hA ih ht e1 e2 x1 x2 he hS hwn hv hvI hval hN hW hB hp
        go_enter Tryz.func43, Tryz.ntmps43
        go_wp2_with (go_at_call 31; fail)
        with_reducible refine i1.mono ?_
        rintro r w1 ⟨v1, rfl, o1, b1⟩
        obtain ⟨a1, ca1, hv1, hat1, _, _⟩ := Own.atI o1
        subst hv1
        rw [hix] at o1 ⊢
        have W1 := HW.out.below b1
        have BB1 := HB.out.trans (b1.mono HB.out.size)
        have k1 := c1 a1 ca1 w1 (Y ++ H) (V ++ L) hat1 BB1 W1
        have O1 := hid o1
        have B1 := hid b1
        have HBB1 := hid BB1
        clear o1 b1 hat1 W1 BB1 c1
        go_wp2_with (first
          | (go_at_call 32; refine (iS _).mono ?_; rintro r w2 ⟨rfl, h0⟩; have h0 := h0.symm; subst h0)
          | (go_at_call 43; fail))
        with_reducible refine k1.mono ?_
        rintro r w3 ⟨rfl, W3, K3⟩
        have ne : ∀ k, (Value.slice a1 I.length ca1).ownBlock = some k → ¬ k = g := fun k hk e => by have := O1.out.ge k hk; omega
        obtain ⟨a1', ca1', hv1', hat3, _, _⟩ := Own.atI (O1.out.keep K3 ne)
        rw [hix] at hv1'
        injection hv1' with z1 _ z3
        subst z1 z3
        have BB3 := HBB1.out.trans (keep_below K3 HBB1.out.size (fun k e => by omega))
        have k2 := c2 a1 ca1 w3 H L hat3 BB3 W3
        have HK3 := hid ((Keep.ofBelow (S := fun k => k = g) B1.out).trans K3 (fun _ _ e => e))
        clear hat3 W3 K3 BB3 c2 k1
        go_wp2_with (go_at_call 43; fail)
        with_reducible refine k2.mono ?_
        rintro r w4 ⟨rfl, W4, K4⟩
        have HW4 := hid W4
        have HK4 := hid (HK3.out.trans K4 (fun _ _ e => e))
        have iN4 := iN w4
        clear W4 K4 k2 iN
        go_wp2_with (go_at_call 61; fail)
        with_reducible refine iN4.mono ?_
        rintro r w5 ⟨rfl, b5⟩
        have HW5 := hid (HW4.out.below b5)
        have HK5 := hid (HK4.out.trans (Keep.ofBelow (S := fun k => k = g) b5) (fun _ _ e => e))
        go_wp2
        go_ret
        exact ⟨rfl, HW5.out, HK5.out⟩
end Bat
end Go.Proofs.YtbodgecbakcaaaaGreatDoor
