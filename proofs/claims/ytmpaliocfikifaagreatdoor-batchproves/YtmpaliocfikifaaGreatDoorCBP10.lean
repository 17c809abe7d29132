import Derived.Test.YtmpaliocfikifaaGreatDoorCBP5
import Derived.Test.YtmpaliocfikifaaGreatDoorCTL10
import Derived.Test.YtmpaliocfikifaaGreatDoorCO36
import Derived.Test.YtmpaliocfikifaaGreatDoorCFN3
import Derived.Test.YtmpaliocfikifaaGreatDoorCBL2
import Derived.Test.YtmpaliocfikifaaGreatDoorCTL32
import Derived.Test.YtmpaliocfikifaaGreatDoorCO4
import Derived.Test.YtmpaliocfikifaaGreatDoorCO52
namespace Go.Proofs.YtmpaliocfikifaaGreatDoor
open Go.RowKit Go.Shelf
namespace Bat
set_option maxRecDepth 100000 in
set_option maxHeartbeats 4000000 in
theorem expand12_bad (n : Int) (cs : List Int) (H L : List (List UInt8)) (ai ah al : Option Addr) (ci ch cl : Nat) (w : World) (hcs : cs.length ≤ 140737488355328) (hH : H.length ≤ 9223372036854775807) (hL : L.length ≤ 9223372036854775807) (hA : AtI w ai cs) (hAh : At w ah H) (hAl : At w al L) (he : knE n cs H L ≠ 0) :
    Calls Tryz.prog 28 #[bt n (.slice ai cs.length ci) (.slice ah H.length ch), .slice al L.length cl] w fun r w' => r = .returned (.tuple #[.slice none 0 0, .int .i64 (knE n cs H L)]) ∧ Below w.heap.size w w' := by
  have b0 := (Below.refl w.heap.size w).alloc (Nat.le_refl _) (.cells #[.int .i64 n, .slice ai cs.length ci, .slice ah H.length ch] 43)
  have s0 := BtI.new w n (.slice ai cs.length ci) (.slice ah H.length ch)
  have i1 := known12_bad n cs H L ai ah al ci ch cl _ hcs hH hL (hA.below b0 (Nat.le_refl _)) (hAh.below b0 (Nat.le_refl _)) (hAl.below b0 (Nat.le_refl _)) he
  generalize knE n cs H L = c at *
  have h0' : (c != 0) = true := by simpa using he
  have B0 := hid b0
  have x0 := s0.c0
  have x1 := s0.c1
  have x2 := s0.c2
  generalize H.length = hl at *
  generalize L.length = ll at *
  generalize cs.length = m at *
  clear hA hAh hAl b0 s0
  go_enter Tryz.func28, Tryz.ntmps28
  go_wp2_with (go_at_call 53; refine i1.mono ?_; rintro r w1 ⟨rfl, b1⟩; have B1 := hid (B0.out.trans (b1.mono B0.out.size)); clear b1)
  go_ret2
  exact ⟨rfl, B1.out⟩
theorem ivs_one12 {l : List Int} : ∀ u ∈ ivs l, u.oneCell' = true := fun u hu => by
  obtain ⟨x, _, rfl⟩ := List.mem_map.1 hu
  rfl
/-- append(v, l...) -/
theorem append_ints (w : World) (base : Nat) (v : Value) (K : List Int) (hown : Own w base v (ivs K)) (hbase : base ≤ w.heap.size) (a : Option Addr) (cap : Nat) (L : List Int) (hA : AtI w a L) (h0 : 0 < L.length) (hlen : K.length + L.length ≤ 17592186043904) :
    ∃ v' w', (Builtin.append_ #[22, 22] 22 #[v, .slice a L.length cap]).run Tryz.prog w = .ok v' w' ∧ Own w' base v' (ivs (K ++ L)) ∧ Below base w w' := by
  obtain ⟨i0, hi, hz0, hz1, hz2⟩ := info_parts infoBl
  obtain ⟨x, rfl⟩ := hA.pos h0
  have hsrc : Src Tryz.prog 1 22 (.slice (some x) L.length cap) L.length (ivs L) w :=
    Src.ofSlice w Tryz.underlying22 x L.length cap (ivs L) (by rw [ivs_length, Nat.mul_one]) (fun j u hj => by
      simp only [ivs, List.getElem?_map, Option.map_eq_some_iff] at hj
      obtain ⟨p, hp, rfl⟩ := hj
      obtain ⟨y, hy, _, hc⟩ := hA j p hp
      obtain rfl := Option.some.inj hy
      exact hc) (fun u hu => ivs_one12 u hu)
  obtain ⟨v', w', h1, h2, h3, h4⟩ := run_append_O (P := Tryz.prog) w base 22 22 22 3 i0 (.int .i64 0) Tryz.underlying22 hi hz0 hz1 rfl v (ivs K) hown _ L.length (ivs L) hsrc
    (by rw [ivs_length, hz2]; omega) (by rw [ivs_length, maxLen]; omega) hbase (fun _ => by omega)
  exact ⟨v', w', h1, by simpa [ivs] using h2, Below.ofGrown h3 hown.ge hbase⟩
theorem nen_int12 (x : Addr) (n c : Nat) (w : World) : (binOp .eql 22 (.slice (some x) n c) (.slice none 0 0)).run Tryz.prog w = .ok (.bool false) w := by kernel_rfl
theorem own_empty (w : World) : Own (w.alloc (.cells #[] 3)) w.heap.size (.slice (some ⟨w.heap.size, 0, none⟩) 0 0) (ivs []) :=
  .inr ⟨w.heap.size, 0, rfl, Nat.le_refl _, Nat.le_refl _, by rw [maxLen]; omega, (fun j v hv => by simp [ivs] at hv), (fun j hj => by omega), by simp⟩
set_option maxRecDepth 100000 in
set_option maxHeartbeats 4000000 in
/-- slices.Clone -/
theorem cloneI (a : Option Addr) (cap : Nat) (L : List Int) (w : World) (hA : AtI w a L) (h0 : 0 < L.length) (hlen : L.length ≤ 1000000) :
    Calls Tryz.prog 36 #[.slice a L.length cap] w fun r w' => ∃ v, r = .returned v ∧ Own w' w.heap.size v (ivs L) ∧ Below w.heap.size w w' := by
  have b0 := (Below.refl w.heap.size w).alloc (Nat.le_refl _) (.cells #[] 3)
  obtain ⟨v', w', hap, hO, hB⟩ := append_ints _ w.heap.size _ [] (own_empty w) (by simp) a cap L (hA.below b0 (Nat.le_refl _)) h0 (by simp; omega)
  obtain ⟨x, rfl⟩ := hA.pos h0
  have hne := nen_int12 x L.length cap
  have HO := hid hO
  have HB := hid (b0.trans hB)
  rw [List.nil_append] at HO
  generalize L.length = m at *
  clear hA hO hB b0
  go_enter Tryz.func36, Tryz.ntmps36
  go_wp2_with (at_builtin; go_must (refine Lib.wpList_append_run _ rfl _ _ 22 22 rfl _ _ rfl rfl _ _ hap ?_))
  go_ret
  exact ⟨_, rfl, HO.out, HB.out⟩
end Bat
end Go.Proofs.YtmpaliocfikifaaGreatDoor

namespace Go.Proofs.YtmpaliocfikifaaGreatDoor
open Go.RowKit Go.Shelf
namespace Bat
/-- B2 -/
def prvE (k : Nat) (n : Int) (cs : List Int) : Int := if 1 ≤ n ∧ n ≤ (k : Int) then tolE n cs else 121
/-- nothing: beside an error -/
abbrev bt0 : Value := .agg #[.int .i64 0, .slice none 0 0, .slice none 0 0]
theorem sizeBt : (Tryz.prog.info? 43).map (·.size) = some 3 := by kernel_rfl
theorem BtI.three {w : World} {g : Nat} {n : Int} {vi vh : Value} (h : BtI w g n vi vh) (n' : Int) (vi' vh' : Value) : BtI (((w.setCell ⟨g, 0, none⟩ (.int .i64 n')).setCell ⟨g, 1, none⟩ vi').setCell ⟨g, 2, none⟩ vh') g n' vi' vh' :=
  heap_setCell_same _ g 2 _ _ _ (heap_setCell_same _ g 1 _ _ _ (heap_setCell_same w g 0 _ _ _ h))
theorem below_three {w w' : World} {B g : Nat} (h : Below B w w') (hg : B ≤ g) (a b c : Value) : Below B w (((w'.setCell ⟨g, 0, none⟩ a).setCell ⟨g, 1, none⟩ b).setCell ⟨g, 2, none⟩ c) :=
  Below.setCell (p := ⟨g, 2, none⟩) (Below.setCell (p := ⟨g, 1, none⟩) (Below.setCell (p := ⟨g, 0, none⟩) h hg _) hg _) hg _
set_option maxRecDepth 100000 in
set_option maxHeartbeats 4000000 in
theorem prove12_bad {w : World} {q h : Nat} {L : List (List UInt8)} {F : Nat → Prop} (t : TrL w q h L F) (n : Int) (cs : List Int) (a : Option Addr) (cap : Nat) (hcs : cs.length ≤ 140737488355328) (hA : AtI w a cs) (he : prvE L.length n cs ≠ 0) :
    Calls Tryz.prog 15 #[.pointer (some ⟨q, 0, none⟩), .int .i64 n, .slice a cs.length cap] w fun r w' => r = .returned (.tuple #[bt0, .int .i64 (prvE L.length n cs)]) ∧ Below w.heap.size w w' := by
  have b0 := (Below.refl w.heap.size w).alloc (Nat.le_refl _) (.cells #[.int .i64 0, .slice none 0 0, .slice none 0 0] 43)
  have s0 := BtI.new w 0 (.slice none 0 0) (.slice none 0 0)
  have i1 := tSizeL (t.below b0)
  have i2 := told12_any n cs a cap _ hcs (hA.below b0 (Nat.le_refl _))
  have HS := hid s0
  have B0 := hid b0
  have hc0 := s0.c0
  have hc1 := s0.c1
  have hc2 := s0.c2
  have hf0 : (w.alloc (.cells #[.int .i64 0, .slice none 0 0, .slice none 0 0] 43)).frozen? ⟨w.heap.size, 0, none⟩ = false := frozen_of_row _ _ _ _ _ s0
  have hf1 : (w.alloc (.cells #[.int .i64 0, .slice none 0 0, .slice none 0 0] 43)).frozen? ⟨w.heap.size, 1, none⟩ = false := frozen_of_row _ _ _ _ _ s0
  have hf2 : (w.alloc (.cells #[.int .i64 0, .slice none 0 0, .slice none 0 0] 43)).frozen? ⟨w.heap.size, 2, none⟩ = false := frozen_of_row _ _ _ _ _ s0
  by_cases h1 : 1 ≤ n ∧ n ≤ (L.length : Int)
  · have e : prvE L.length n cs = tolE n cs := by unfold prvE; rw [if_pos h1]
    rw [e] at he ⊢
    have g1 : ¬ n < 1 := by omega
    have g2 : ¬ (L.length : Int) < n := by omega
    have g3 : (tolE n cs != 0) = true := by simpa using he
    generalize tolE n cs = c at *
    generalize batchL n cs = B at *
    generalize cs.length = m at *
    generalize L.length = k at *
    clear t hA b0 s0 e
    go_enter Tryz.func15, Tryz.ntmps15
    go_wp2_with (first
      | (go_at_call 23; refine i1.mono ?_; rintro r w1 ⟨rfl, h0⟩; have h0 := h0.symm; subst h0)
      | (go_at_call 33; refine i2.mono ?_; rintro r w1 ⟨b1, v1, rfl, o1, f1⟩; have B1 := hid (B0.out.trans (b1.mono B0.out.size)); have S1 := hid (HS.out.below b1); have kc0 := S1.out.c0; have kc1 := S1.out.c1; have kc2 := S1.out.c2; have kf0 : w1.frozen? ⟨w.heap.size, 0, none⟩ = false := frozen_of_row _ _ _ _ _ S1.out; have kf1 : w1.frozen? ⟨w.heap.size, 1, none⟩ = false := frozen_of_row _ _ _ _ _ S1.out; have kf2 : w1.frozen? ⟨w.heap.size, 2, none⟩ = false := frozen_of_row _ _ _ _ _ S1.out; clear b1 o1 f1))
    refine bodyPost_ret (results_row_tmp rfl _ _ w.heap.size 43 _ (0, 0) _ rfl (BtI.three S1.out 0 (.slice none 0 0) (.slice none 0 0)) Tryz.underlying43 rfl sizeBt) rfl ⟨rfl, ?_⟩
    exact below_three B1.out (Nat.le_refl _) _ _ _
  · have e : prvE L.length n cs = 121 := by unfold prvE; rw [if_neg h1]
    rw [e]
    clear i2 he e
    generalize cs.length = m at *
    by_cases g1 : n < 1
    · clear i1 h1 t hA b0 s0
      go_enter Tryz.func15, Tryz.ntmps15
      go_wp2
      refine bodyPost_ret (results_row_tmp rfl _ _ w.heap.size 43 _ (0, 0) _ rfl HS.out Tryz.underlying43 rfl sizeBt) rfl ⟨rfl, B0.out⟩
    · have g2 : (L.length : Int) < n := by omega
      generalize L.length = k at *
      clear h1 t hA b0 s0
      go_enter Tryz.func15, Tryz.ntmps15
      go_wp2_with (go_at_call 23; refine i1.mono ?_; rintro r w1 ⟨rfl, h0⟩; have h0 := h0.symm; subst h0)
      refine bodyPost_ret (results_row_tmp rfl _ _ w.heap.size 43 _ (0, 0) _ rfl HS.out Tryz.underlying43 rfl sizeBt) rfl ⟨rfl, B0.out⟩
/-- the told hashes of a tree -/
def tolH (L : List (List UInt8)) (n : Nat) (is : List Nat) : List (List UInt8) := (Tree.othF n 0 n is).map fun s => Tree.root (Til.sg L s.1 s.2)
/-- what Prove answers -/
def PrvP (w : World) (n : Nat) (is : List Nat) (H : List (List UInt8)) (r : Ending) (w' : World) : Prop :=
  ∃ vi g, r = .returned (.tuple #[bt (n : Int) vi (.slice (some ⟨g, 0, none⟩) H.length H.length), .int .i64 0]) ∧ Own w' w.heap.size vi (ivs (ix is)) ∧ Row w' g H ∧ w.heap.size ≤ g ∧ vi.ownBlock ≠ some g ∧ Below w.heap.size w w'
set_option maxRecDepth 100000 in
set_option maxHeartbeats 8000000 in
theorem prove12_ok {w : World} {q h : Nat} {L : List (List UInt8)} {F : Nat → Prop} (t : TrL w q h L F) (Z : Tb w) (n : Nat) (is : List Nat) (hb0 : BatOk (n : Int) (ix is)) (hn : n ≤ L.length) (a : Option Addr) (cap : Nat) (hA : AtI w a (ix is)) :
    Calls Tryz.prog 15 #[.pointer (some ⟨q, 0, none⟩), .int .i64 (n : Int), .slice a is.length cap] w (PrvP w n is (tolH L n is)) := by
  have hil : (ix is).length = is.length := by simp [ix]
  have n1 := hb0.n1
  have n2 := hb0.n2
  have l1 := hb0.l1
  have l2 := hb0.l2
  have hto : toN (ix is) = is := by unfold toN ix; rw [List.map_map]; exact List.map_id'' (fun i => Int.toNat_natCast i) is
  have hE := batchE_ok hb0
  have hT : batchL (n : Int) (ix is) = Tree.othF n 0 n is := by unfold batchL; rw [if_pos hE, hto, Int.toNat_natCast]
  have hup : is.Pairwise (· < ·) := by
    have := hb0.so
    unfold ix at this
    rw [List.pairwise_map] at this
    exact this.imp fun h => by omega
  have hTle : (Tree.othF n 0 n is).length ≤ n := by
    have := Tree.oth_count is (hup.imp fun h e => by omega) n 0 n (Nat.le_refl _) (by omega)
    omega
  obtain ⟨Tn, Ti⟩ := apt_nodup (Tree.othF_apart is n 0 n (by omega) (Nat.le_refl _))
  have hn20 := t.n20
  have b0 := (Below.refl w.heap.size w).alloc (Nat.le_refl _) (.cells #[.int .i64 0, .slice none 0 0, .slice none 0 0] 43)
  have s0 := BtI.new w 0 (.slice none 0 0) (.slice none 0 0)
  have i1 := tSizeL (t.below b0)
  have i2 := told12_any (n : Int) (ix is) a cap _ (by omega) (hA.below b0 (Nat.le_refl _))
  rw [tolE_zero.2 hE, hT, hil] at i2
  have iC := fun w' (hb : Below w.heap.size w w') => cloneI a cap (ix is) w' (hA.below hb (Nat.le_refl _)) l1 (by omega)
  rw [hil] at iC
  unfold tolH
  have hTi : ∀ s ∈ Tree.othF n 0 n is, s.1 ≤ s.2 ∧ s.2 ≤ L.length := fun s hs => by have := Ti s hs; omega
  generalize Tree.othF n 0 n is = S at *
  have HT := hid t
  have HZ := hid Z
  have hZl := Z.lt
  have HTI := hid hTi
  have HS := hid s0
  have B0 := hid b0
  obtain ⟨k, hk⟩ : ∃ k, S.length = k := ⟨_, rfl⟩
  have Hk := hid hk
  rw [hk] at hTle
  have mk := fun w' => make_texts w' k (by omega)
  have g1 : ¬ (n : Int) < 1 := by omega
  have g2 : ¬ (L.length : Int) < (n : Int) := by omega
  clear t Z hb0 hA hil l1 l2 hto hE hT hup Tn Ti b0 s0 hTi hk
  go_enter Tryz.func15, Tryz.ntmps15
  go_wp2_with (first
    | (go_at_call 23; refine i1.mono ?_; rintro r w1 ⟨rfl, h0⟩; have h0 := h0.symm; subst h0)
    | (go_at_call 33; refine i2.mono ?_; rintro r w1 ⟨b1, v1, rfl, o1, f1⟩; obtain ⟨a1, c1, rfl, q1, q2⟩ := OwnM.shape o1; have B1 := hid (B0.out.trans (b1.mono B0.out.size)); have S1 := hid (HS.out.below b1); have O1 := hid o1; have mk1 := mk w1; rw [Hk.out]; clear b1 o1 f1))
  have R0 : Hid (Row (w1.alloc (.cells (svs (List.replicate k [])).toArray 9)) w1.heap.size (vpre (fun s : Nat × Nat => Tree.root (Til.sg L s.1 s.2)) S 0)) := by
    have := heap_alloc_new w1 (.cells (svs (List.replicate k [])).toArray 9)
    unfold Hid Row
    rw [vpre_zero, Hk.out]
    exact this
  have BA := hid ((Below.refl w1.heap.size w1).alloc (Nat.le_refl _) (.cells (svs (List.replicate k [])).toArray 9))
  have hgl := lt_of_heap S1.out
  have z1 := B1.out.size
  clear mk mk1 i1 i2 HS B0
  go_loopw [11, 12, 37] (fun _ _ i w' => ∃ j : Nat, j ≤ k ∧ i = .int .i64 (j : Int) ∧ Hid (Row w' w1.heap.size (vpre (fun s : Nat × Nat => Tree.root (Til.sg L s.1 s.2)) S j)) ∧ Hid (Below w1.heap.size w1 w')) (fun _ _ i _ => k - (intOf i).toNat)
  case atStart => exact ⟨0, by omega, rfl, R0, BA⟩
  case round =>
    clear R0 BA
    obtain ⟨j, hj, rfl, hR, hB⟩ := hrel
    have BW := hid (B1.out.trans (hB.out.mono z1))
    by_cases hjk : j < k
    · have b0 : (j : Int) < (k : Int) := by omega
      have j0 : (0 : Int) ≤ (j : Int) := by omega
      have hjS : j < S.length := by rw [Hk.out]; exact hjk
      obtain ⟨g, rfl, hg, c0, c1'⟩ := ownP_at (O1.out.below hB.out) (List.getElem?_eq_getElem hjS)
      have hs := HTI.out S[j] (List.getElem_mem hjS)
      have hset := hid (vpre_set (fun s : Nat × Nat => Tree.root (Til.sg L s.1 s.2)) S hjS)
      have hlen := vpre_len (fun s : Nat × Nat => Tree.root (Til.sg L s.1 s.2)) S (Nat.le_of_lt hjS)
      have HX : Hid (tPartO L (S[j].1 : Int) (S[j].2 : Int) = (Tree.root (Til.sg L S[j].1 S[j].2), 0)) := tPartO_nat hs.1 hs.2
      have hbs := (Below.refl wr.heap.size wr).alloc (Nat.le_refl _) (.cells #[.int .i64 (S[j].1 : Int), .int .i64 (S[j].2 : Int)] 72)
      have s0 := SpI.new wr (S[j].1 : Int) (S[j].2 : Int)
      have sc0 := s0.c0
      have sc1 := s0.c1
      have b1 := BW.out.trans (hbs.mono BW.out.size)
      have R1 := hR.out.below hbs hR.out.lt
      have i1 := tPart_any (HT.out.below b1) (S[j].1 : Int) (S[j].2 : Int) (HZ.out.below b1 hZl) HX
      have b2 := hid (hB.out.trans (hbs.mono hB.out.size))
      generalize (S[j].1 : Int) = x0 at *
      generalize (S[j].2 : Int) = x1 at *
      generalize Tree.root (Til.sg L S[j].1 S[j].2) = r at *
      rw [show sv r = Value.string ⟨r.toArray⟩ from rfl] at i1
      have HR1 := hid R1
      clear hs HX hbs s0 hR hB b1 R1
      go_wp2_with (go_at_call 35; refine i1.mono ?_; rintro e w2 ⟨rfl, b3⟩; have B3 := hid b3; have R2 := hid (HR1.out.below b3 HR1.out.lt); clear b3; have f2 := R2.out.free (j := j) (by rw [hlen, Hk.out]; exact hjk); have d2 := R2.out.cell (List.getElem?_eq_getElem (show j < (vpre (fun s : Nat × Nat => Tree.root (Til.sg L s.1 s.2)) S j).length by rw [hlen, Hk.out]; exact hjk)))
      refine ⟨⟨j + 1, by omega, by go_num, ?_, ?_⟩, by simp [intOf]; omega⟩
      · have := R2.out.set j r
        rw [hset.out] at this
        exact this
      · exact Below.setCell (p := ⟨w1.heap.size, j, none⟩) (b2.out.trans (B3.out.mono b2.out.size)) (Nat.le_refl _) _
    · obtain rfl : j = k := by omega
      have b0 : ¬ (j : Int) < (j : Int) := by omega
      have i3 := iC _ BW.out
      have RW := hR.out
      rw [← Hk.out, vpre_all] at RW
      have HRW := hid RW
      have hlm := hid (show (List.map (fun s : Nat × Nat => Tree.root (Til.sg L s.1 s.2)) S).length = j by rw [List.length_map]; exact Hk.out)
      have SW : Hid (BtI wr w.heap.size 0 (.slice none 0 0) (.slice none 0 0)) := (hB.out.block w.heap.size hgl).trans S1.out
      have hgr : w1.heap.size < wr.heap.size := hR.out.lt
      clear iC RW hR
      go_wp2_with (go_at_call 36; refine i3.mono ?_; rintro e w2 ⟨v2, rfl, o2, b2⟩; obtain ⟨va, vc, hv2, _, _, _⟩ := Own.atI o2; subst hv2; have B2 := hid (BW.out.trans (b2.mono BW.out.size)); have S2 := hid (BtI.below SW.out b2); have R2 := hid (HRW.out.below b2 hgr); have O2 := hid o2; have kc0 := S2.out.c0; have kc1 := S2.out.c1; have kc2 := S2.out.c2; have kf0 : w2.frozen? ⟨w.heap.size, 0, none⟩ = false := frozen_of_row _ _ _ _ _ S2.out; have kf1 : w2.frozen? ⟨w.heap.size, 1, none⟩ = false := frozen_of_row _ _ _ _ _ S2.out; have kf2 : w2.frozen? ⟨w.heap.size, 2, none⟩ = false := frozen_of_row _ _ _ _ _ S2.out; clear b2 o2)
      have q1' : Below w.heap.size w2 _ := below_three (Below.refl w.heap.size w2) (Nat.le_refl w.heap.size) (.int .i64 (n : Int)) (.slice va (ix is).length vc) (.slice (some ⟨w1.heap.size, 0, none⟩) j j)
      have hk1 : Keep (fun k => k = w.heap.size) w2 (((w2.setCell ⟨w.heap.size, 0, none⟩ (.int .i64 (n : Int))).setCell ⟨w.heap.size, 1, none⟩ (.slice va (ix is).length vc)).setCell ⟨w.heap.size, 2, none⟩ (.slice (some ⟨w1.heap.size, 0, none⟩) j j)) :=
        ((Keep.ofSet (S := fun k => k = w.heap.size) w2 w.heap.size 0 _ rfl).trans (Keep.ofSet (S := fun k => k = w.heap.size) _ w.heap.size 1 _ rfl) fun _ _ e => e).trans (Keep.ofSet (S := fun k => k = w.heap.size) _ w.heap.size 2 _ rfl) fun _ _ e => e
      have hwr := BW.out.size
      refine bodyPost_ret (results_row_tmp rfl _ _ w.heap.size 43 _ (0, 0) _ rfl (BtI.three S2.out (n : Int) (.slice va (ix is).length vc) (.slice (some ⟨w1.heap.size, 0, none⟩) j j)) Tryz.underlying43 rfl sizeBt) rfl ⟨.slice va (ix is).length vc, w1.heap.size, by rw [hlm.out]; rfl, ?_, ?_, by omega, ?_, ?_⟩
      · refine (O2.out.mono (base' := w.heap.size) (by omega)).keep hk1 fun k hk e => ?_
        have := O2.out.ge k hk
        omega
      · unfold Row
        rw [hk1.block w1.heap.size R2.out.lt (by omega)]
        exact R2.out
      · intro e
        have := O2.out.ge w1.heap.size e
        omega
      · exact B2.out.trans q1'
end Bat
end Go.Proofs.YtmpaliocfikifaaGreatDoor

namespace Go.Proofs.YtmpaliocfikifaaGreatDoor
open Go.RowKit Go.Shelf
namespace Bat
/-- what is wrong with a size and indices, of a tree of so many leaves -/
def askE (last : Int) (n : Int) (l : List Int) : Int := if 1 ≤ n ∧ n ≤ last then (if rightB n l = true then 0 else 120) else 121
set_option maxRecDepth 100000 in
set_option maxHeartbeats 2000000 in
theorem asked_any (n last : Int) (l : List Int) (hl : l.length ≤ 9223372036854775807) (hin : ∀ c ∈ l, -9223372036854775808 ≤ c ∧ c ≤ 9223372036854775807) (a : Option Addr) (ca : Nat) (w : World) (hA : AtI w a l) :
    Calls Tryz.prog 34 #[.int .i64 n, .int .i64 last, .slice a l.length ca] w fun r w' => r = .returned (.int .i64 (askE last n l)) ∧ Below w.heap.size w w' := by
  have i1 := rright_any n l hl hin a ca w hA
  by_cases h : 1 ≤ n ∧ n ≤ last
  · have g1 : ¬ n < 1 := by omega
    have g2 : ¬ last < n := by omega
    cases hr : rightB n l with
    | true =>
      have e : askE last n l = 0 := by unfold askE; rw [if_pos h, if_pos hr]
      rw [e]
      rw [hr] at i1
      generalize l.length = m at *
      clear hA hin e h
      go_enter Tryz.func34, Tryz.ntmps34
      go_wp2_with (go_at_call 59; refine i1.mono ?_; rintro r w1 ⟨rfl, b1⟩; have B1 := hid b1; clear b1)
      go_ret
      exact ⟨rfl, B1.out⟩
    | false =>
      have e : askE last n l = 120 := by unfold askE; rw [if_pos h, if_neg (by rw [hr]; simp)]
      rw [e]
      rw [hr] at i1
      generalize l.length = m at *
      clear hA hin e h
      go_enter Tryz.func34, Tryz.ntmps34
      go_wp2_with (go_at_call 59; refine i1.mono ?_; rintro r w1 ⟨rfl, b1⟩; have B1 := hid b1; clear b1)
      go_ret
      exact ⟨rfl, B1.out⟩
  · have e : askE last n l = 121 := by unfold askE; rw [if_neg h]
    rw [e]
    generalize l.length = m at *
    by_cases g1 : n < 1
    · clear i1 hA hin e h
      go_enter Tryz.func34, Tryz.ntmps34
      go_wp2
      go_ret
      exact ⟨rfl, Below.refl _ _⟩
    · have g2 : last < n := by omega
      clear i1 hA hin e h
      go_enter Tryz.func34, Tryz.ntmps34
      go_wp2
      go_ret
      exact ⟨rfl, Below.refl _ _⟩
theorem askE_most (n : Int) (l : List Int) : askE 1099511627776 n l = tolE n l := by rw [tolE_is]; rfl
set_option maxRecDepth 100000 in
set_option maxHeartbeats 2000000 in
/-- the document's Count -/
theorem rcount_any (n : Int) (l : List Int) (hl : l.length ≤ 9223372036854775807) (hin : ∀ c ∈ l, -9223372036854775808 ≤ c ∧ c ≤ 9223372036854775807) (a : Option Addr) (ca : Nat) (w : World) (hA : AtI w a l) :
    Calls Tryz.prog 14 #[.int .i64 n, .slice a l.length ca] w fun r w' => r = .returned (.tuple #[.int .i64 ((batchL n l).length : Int), .int .i64 (tolE n l)]) ∧ Below w.heap.size w w' := by
  have i1 := asked_any n 1099511627776 l hl hin a ca w hA
  rw [askE_most] at i1
  by_cases h0 : tolE n l = 0
  · have bo := BatOk.of (tolE_zero.1 h0)
    have n1 := bo.n1
    have n2 := bo.n2
    obtain ⟨m, rfl⟩ := Int.eq_ofNat_of_zero_le (show 0 ≤ n by omega)
    have hix := bo.ix
    have l2 := bo.l2
    have hA2 := hA
    rw [← hix] at hA2
    have hlt : (toN l).length = l.length := by simp [toN]
    have i2 := fun w' (hb : Below w.heap.size w w') => rtold_any m 0 m (toN l) a ca w' (by omega) (Nat.le_refl _) (by omega) (by omega) (hA2.below hb (Nat.le_refl _))
    rw [hlt, Nat.zero_add, show (((0 : Nat)) : Int) = 0 from rfl] at i2
    have hbl : batchL (m : Int) l = Tree.othF m 0 m (toN l) := by unfold batchL; rw [if_pos (tolE_zero.1 h0), Int.toNat_natCast]
    rw [hbl, h0]
    rw [h0] at i1
    generalize Tree.othF m 0 m (toN l) = X at *
    generalize l.length = k at *
    clear hA hA2 hin bo hix hbl h0
    go_enter Tryz.func14, Tryz.ntmps14
    go_wp2_with (first
      | (go_at_call 34; (with_reducible refine i1.mono ?_); rintro r w1 ⟨rfl, b1⟩; have i3 := i2 w1 b1; have B1 := hid b1; clear b1 i2)
      | (go_at_call 26; (with_reducible refine i3.mono ?_); rintro r w2 ⟨b2, v2, rfl, o2, f2⟩; obtain ⟨a2, c2, rfl, _, _⟩ := OwnM.shape o2; have B2 := hid (B1.out.trans (b2.mono B1.out.size)); clear b2 o2 f2))
    go_ret2
    exact ⟨rfl, B2.out⟩
  · have hbl : batchL n l = [] := by unfold batchL; rw [if_neg (fun e => h0 (tolE_zero.2 e))]
    rw [hbl]
    generalize tolE n l = c at *
    have h0' : (c != 0) = true := by simpa using h0
    generalize l.length = k at *
    clear hA hin hbl
    go_enter Tryz.func14, Tryz.ntmps14
    go_wp2_with (go_at_call 34; (with_reducible refine i1.mono ?_); rintro r w1 ⟨rfl, b1⟩; have B1 := hid b1; clear b1)
    go_ret2
    exact ⟨rfl, B1.out⟩
end Bat
end Go.Proofs.YtmpaliocfikifaaGreatDoor

namespace Go.Proofs.YtmpaliocfikifaaGreatDoor
open Go.RowKit Go.Shelf
namespace Bat
theorem BtI.set1 {w : World} {g : Nat} {n : Int} {vi vh : Value} (h : BtI w g n vi vh) (v' : Value) : BtI (w.setCell ⟨g, 1, none⟩ v') g n v' vh := heap_setCell_same w g 1 _ _ _ h
theorem BtI.set2' {w : World} {g : Nat} {n : Int} {vi vh : Value} (h : BtI w g n vi vh) (v' : Value) : BtI (w.setCell ⟨g, 2, none⟩ v') g n vi v' := heap_setCell_same w g 2 _ _ _ h
theorem askE_prv {k : Nat} (hk : k ≤ 1048576) (n : Int) (l : List Int) : askE (k : Int) n l = prvE k n l := by
  unfold askE prvE
  by_cases h : 1 ≤ n ∧ n ≤ (k : Int)
  · rw [if_pos h, if_pos h, tolE_is, if_pos (show 1 ≤ n ∧ n ≤ 1099511627776 from ⟨h.1, by omega⟩)]
  · rw [if_neg h, if_neg h]
set_option maxRecDepth 100000 in
set_option maxHeartbeats 4000000 in
theorem rprove_bad {w : World} {q h : Nat} {L : List (List UInt8)} {F : Nat → Prop} (t : RtL w q h L F) (hk : L.length ≤ 1048576) (n : Int) (l : List Int) (hl : l.length ≤ 9223372036854775807) (hin : ∀ c ∈ l, -9223372036854775808 ≤ c ∧ c ≤ 9223372036854775807) (a : Option Addr) (ca : Nat) (hA : AtI w a l) (he : prvE L.length n l ≠ 0) :
    Calls Tryz.prog 16 #[.pointer (some ⟨q, 0, none⟩), .int .i64 n, .slice a l.length ca] w fun r w' => r = .returned (.tuple #[bt0, .int .i64 (prvE L.length n l)]) ∧ Below w.heap.size w w' := by
  have b0 := (Below.refl w.heap.size w).alloc (Nat.le_refl _) (.cells #[.int .i64 0, .slice none 0 0, .slice none 0 0] 43)
  have s0 := BtI.new w 0 (.slice none 0 0) (.slice none 0 0)
  have i1 := rSizeL (t.below b0)
  have i2 := asked_any n (L.length : Int) l hl hin a ca _ (hA.below b0 (Nat.le_refl _))
  rw [askE_prv hk] at i2
  generalize prvE L.length n l = c at *
  have h0' : (c != 0) = true := by simpa using he
  have HS := hid s0
  have B0 := hid b0
  generalize l.length = m at *
  generalize L.length = kk at *
  clear t hA hin b0 s0
  go_enter Tryz.func16, Tryz.ntmps16
  go_wp2_with (first
    | (go_at_call 37; refine i1.mono ?_; rintro r w1 ⟨rfl, h0⟩; have h0 := h0.symm; subst h0)
    | (go_at_call 34; refine i2.mono ?_; rintro r w1 ⟨rfl, b1⟩; have B1 := hid (B0.out.trans (b1.mono B0.out.size)); have S1 := hid (HS.out.below b1); have kc0 := S1.out.c0; have kc1 := S1.out.c1; have kc2 := S1.out.c2; have kf0 : w1.frozen? ⟨w.heap.size, 0, none⟩ = false := frozen_of_row _ _ _ _ _ S1.out; have kf1 : w1.frozen? ⟨w.heap.size, 1, none⟩ = false := frozen_of_row _ _ _ _ _ S1.out; have kf2 : w1.frozen? ⟨w.heap.size, 2, none⟩ = false := frozen_of_row _ _ _ _ _ S1.out; clear b1))
  refine bodyPost_ret (results_row_tmp rfl _ _ w.heap.size 43 _ (0, 0) _ rfl (BtI.three S1.out 0 (.slice none 0 0) (.slice none 0 0)) Tryz.underlying43 rfl sizeBt) rfl ⟨rfl, ?_⟩
  exact below_three B1.out (Nat.le_refl _) _ _ _
set_option maxRecDepth 100000 in
set_option maxHeartbeats 8000000 in
theorem rprove_ok {w : World} {q h : Nat} {L : List (List UInt8)} {F : Nat → Prop} (t : RtL w q h L F) (n : Nat) (is : List Nat) (hb0 : BatOk (n : Int) (ix is)) (hn : n ≤ L.length) (hk : L.length ≤ 1048576) (hin : ∀ c ∈ ix is, -9223372036854775808 ≤ c ∧ c ≤ 9223372036854775807) (a : Option Addr) (ca : Nat) (hA : AtI w a (ix is)) :
    Calls Tryz.prog 16 #[.pointer (some ⟨q, 0, none⟩), .int .i64 (n : Int), .slice a is.length ca] w fun r w' => ∃ ai ci ah ch, r = .returned (.tuple #[bt (n : Int) (.slice ai is.length ci) (.slice ah (tolH L n is).length ch), .int .i64 0]) ∧ AtI w' ai (ix is) ∧ At w' ah (tolH L n is) ∧ Below w.heap.size w w' := by
  have hil : (ix is).length = is.length := by simp [ix]
  have n1 := hb0.n1
  have n2 := hb0.n2
  have l1 := hb0.l1
  have l2 := hb0.l2
  rw [hil] at l2
  have hpr : prvE L.length (n : Int) (ix is) = 0 := by unfold prvE; rw [if_pos ⟨by omega, by omega⟩]; exact tolE_zero.2 (batchE_ok hb0)
  obtain ⟨_, Ti⟩ := apt_nodup (Tree.othF_apart is n 0 n (by omega) (Nat.le_refl _))
  have hTle := othF_le n 0 n is (by omega) (by omega)
  have b0 := (Below.refl w.heap.size w).alloc (Nat.le_refl _) (.cells #[.int .i64 0, .slice none 0 0, .slice none 0 0] 43)
  have s0 := BtI.new w 0 (.slice none 0 0) (.slice none 0 0)
  have i1 := rSizeL (t.below b0)
  have i2 := asked_any (n : Int) (L.length : Int) (ix is) (by omega) hin a ca _ (hA.below b0 (Nat.le_refl _))
  rw [askE_prv hk, hpr, hil] at i2
  have iT := fun w' (hb : Below w.heap.size w w') => rtold_any n 0 n is a ca w' (by omega) (Nat.le_refl _) (by omega) (by omega) (hA.below hb (Nat.le_refl _))
  rw [Nat.zero_add, show (((0 : Nat)) : Int) = 0 from rfl] at iT
  have hTi : ∀ s ∈ Tree.othF n 0 n is, s.1 ≤ s.2 ∧ s.2 ≤ L.length := fun s hs => by have := Ti s hs; omega
  unfold tolH
  generalize Tree.othF n 0 n is = S at *
  have AI := hid (fun w' (h : Below w.heap.size w w') => hA.below h (Nat.le_refl _))
  have HT := hid t
  have HTI := hid hTi
  have HS := hid s0
  have B0 := hid b0
  clear t hb0 hA b0 s0 hTi hin hpr Ti
  go_enter Tryz.func16, Tryz.ntmps16
  go_wp2_with (first
    | (go_at_call 37; refine i1.mono ?_; rintro r w1 ⟨rfl, h0⟩; have h0 := h0.symm; subst h0)
    | (go_at_call 34; fail))
  with_reducible refine i2.mono ?_
  rintro r w1 ⟨rfl, b1⟩
  have B1 := hid (B0.out.trans (b1.mono B0.out.size))
  have S1 := hid (HS.out.below b1)
  have hg0 := lt_of_heap S1.out
  have ba := (Below.refl w1.heap.size w1).alloc (Nat.le_refl _) (.cells #[.int .i64 (n : Int), .slice none 0 0, .slice none 0 0] 43)
  have BT2 := hid (BtI.new w1 (n : Int) (.slice none 0 0) (.slice none 0 0))
  have B2 := hid (B1.out.trans (ba.mono B1.out.size))
  have S2 := hid (S1.out.below ba)
  clear i1 i2 b1 HS B0 S1
  go_upto_region 5 with fail
  have z2 : w1.heap.size < (w1.alloc (.cells #[.int .i64 (n : Int), .slice none 0 0, .slice none 0 0] 43)).heap.size := by simp
  generalize w1.alloc (.cells #[.int .i64 (n : Int), .slice none 0 0, .slice none 0 0] 43) = w2 at *
  obtain ⟨v3, w3, hap, hO3, hb3⟩ := append_ints w2 w2.heap.size (.slice none 0 0) [] (Own.nil _ _) (Nat.le_refl _) a ca (ix is) (AI.out _ B2.out) l1 (by simp; omega)
  rw [hil] at hap
  rw [List.nil_append] at hO3
  obtain ⟨a3, c3, hv3, hat3, _, _⟩ := Own.atI hO3
  subst hv3
  rw [hil] at hap hO3
  have BT3 := BT2.out.below hb3
  have y1 := BT2.out.c1
  have y2 := BT3.c1
  have y3 : w3.frozen? ⟨w1.heap.size, 1, none⟩ = false := frozen_of_row _ _ _ _ _ BT3
  have HBT3 := hid BT3
  have HO3 := hid hO3
  have HB3 := hid hb3
  have HBa := hid ba
  clear BT3 hO3 hb3 hat3 ba
  go_wp2_with (first | (at_builtin; go_must (refine Lib.wpList_append_run _ rfl _ _ 22 22 rfl _ _ rfl rfl _ _ hap ?_)) | (go_at_call 26; fail))
  have B3 := B2.out.trans (HB3.out.mono B2.out.size)
  have k3 := Keep.ofSet (S := fun k => k = w1.heap.size) w3 w1.heap.size 1 (.slice a3 is.length c3) rfl
  have B3' := hid (Below.setCell (p := ⟨w1.heap.size, 1, none⟩) B3 B1.out.size (.slice a3 is.length c3))
  have BT3 := hid (HBT3.out.set1 (.slice a3 is.length c3))
  have O3 := hid (HO3.out.keep k3 fun k hk e => by have := HO3.out.ge k hk; omega)
  have S3 : Hid (BtI (w3.setCell ⟨w1.heap.size, 1, none⟩ (.slice a3 is.length c3)) w.heap.size 0 (.slice none 0 0) (.slice none 0 0)) := (k3.block w.heap.size (Nat.lt_of_lt_of_le (lt_of_heap S2.out) HB3.out.size) (by omega)).trans (S2.out.below HB3.out)
  have i4 := iT _ B3'.out
  have zz : w2.heap.size ≤ (w3.setCell ⟨w1.heap.size, 1, none⟩ (.slice a3 is.length c3)).heap.size := by rw [World.size_setCell]; exact HB3.out.size
  clear HBT3 HO3 B3 k3 iT hap y1 y2 y3 S2 BT2 HB3 HBa
  generalize w3.setCell ⟨w1.heap.size, 1, none⟩ (.slice a3 is.length c3) = w4 at *
  with_reducible refine i4.mono ?_
  rintro r w5 ⟨b5, v5, rfl, o5, f5⟩
  obtain ⟨a5, c5, rfl, _, _⟩ := OwnM.shape o5
  have B5 := hid (B3'.out.trans (b5.mono B3'.out.size))
  have BT5 := hid (BT3.out.below b5)
  have O5 := hid (O3.out.below b5 (Nat.le_refl _))
  have S5 := hid (S3.out.below b5)
  have P5 := hid o5
  have PF : Hid (∀ k, (Value.slice a5 S.length c5).ownBlock = some k → ¬ k = w1.heap.size) := fun k hk e => by have := f5 k hk; omega
  have T5 := hid (HT.out.below B5.out)
  have Z5 := hid (show w1.heap.size < w5.heap.size from lt_of_heap BT5.out)
  obtain ⟨kk, hkk⟩ : ∃ kk, S.length = kk := ⟨_, rfl⟩
  have Hkk := hid hkk
  rw [hkk] at hTle ⊢
  have ZB1 := hid B1.out.size
  clear i4 b5 o5 f5 B3' BT3 O3 S3 hkk B1
  go_wp2
  go_loopw [11, 12, 13] (fun i _ _ w' => ∃ (j : Nat) (vh : Value), j ≤ kk ∧ i = .int .i64 (j : Int) ∧ Hid (BtI w' w1.heap.size (n : Int) (.slice a3 is.length c3) vh) ∧ Hid (Own w' w5.heap.size vh (svs ((S.take j).map fun s => Tree.root (Til.sg L s.1 s.2)))) ∧ Hid (Keep (fun k => k = w1.heap.size) w5 w')) (fun i _ _ _ => kk - (intOf i).toNat)
  case atStart => exact ⟨0, .slice none 0 0, by omega, rfl, BT5, Own.nil _ _, Keep.refl _ _⟩
  case round =>
    obtain ⟨j, vh, hj, rfl, hBT, hO, hK⟩ := hrel
    have zK := hK.out.size
    have zw := Z5.out
    have BW := hid (B5.out.trans (keep_below hK.out B5.out.size fun k e => by have := ZB1.out; omega))
    by_cases hjm : j < kk
    · have d0 : (j : Int) < (kk : Int) := by omega
      have l0 : (0 : Int) ≤ (j : Int) := by omega
      have hjS : j < S.length := by rw [Hkk.out]; exact hjm
      obtain ⟨gp, rfl, _, p0, p1⟩ := ownP_at (P5.out.keep hK.out fun k hk => PF.out k hk) (List.getElem?_eq_getElem hjS)
      have hs := HTI.out S[j] (List.getElem_mem hjS)
      have HX : Hid (tPartO L (S[j].1 : Int) (S[j].2 : Int) = (Tree.root (Til.sg L S[j].1 S[j].2), 0)) := tPartO_nat hs.1 hs.2
      have iP := rPart7_any (HT.out.below BW.out) (S[j].1 : Int) (S[j].2 : Int) HX
      have hst := hid (show (S.take (j + 1)).map (fun s => Tree.root (Til.sg L s.1 s.2)) = (S.take j).map (fun s => Tree.root (Til.sg L s.1 s.2)) ++ [Tree.root (Til.sg L S[j].1 S[j].2)] by rw [List.take_add_one, List.getElem?_eq_getElem hjS, List.map_append]; rfl)
      have hlen : ((S.take j).map (fun s => Tree.root (Til.sg L s.1 s.2))).length ≤ 2000000 := by rw [List.length_map, List.length_take]; omega
      generalize (S[j].1 : Int) = x0 at *
      generalize (S[j].2 : Int) = x1 at *
      generalize Tree.root (Til.sg L S[j].1 S[j].2) = r at *
      rw [show sv r = Value.string ⟨r.toArray⟩ from rfl] at iP
      clear hs HX
      go_wp2_with (go_at_call 38; fail)
      with_reducible refine iP.mono ?_
      rintro r' w6 ⟨rfl, b6⟩
      have BT6 := hBT.out.below b6
      have x1' := BT6.c2
      obtain ⟨v7, w7, hap, hO7, hb7⟩ := append_text w6 w5.heap.size vh _ r (hO.out.below b6 (Nat.le_refl _)) hlen (Nat.le_trans zK b6.size)
      rw [← hst.out] at hO7
      obtain ⟨a7, c7, hv7⟩ := Own.shape hO7
      subst hv7
      rw [show sv r = Value.string ⟨r.toArray⟩ from rfl] at hap
      have BT7 : BtI w7 w1.heap.size (n : Int) (.slice a3 is.length c3) vh := (hb7.block _ zw).trans BT6
      have x7 := BT7.c2
      have f7 : w7.frozen? ⟨w1.heap.size, 2, none⟩ = false := frozen_of_row _ _ _ _ _ BT7
      have k6 := hK.out.trans (Keep.ofBelow (S := fun k => k = w1.heap.size) b6) fun _ _ e => e
      have k67 : Keep (fun k => k = w1.heap.size) w5 w7 := ⟨hb7.os.trans k6.os, hb7.tape.trans k6.tape, hb7.output.trans k6.output, Nat.le_trans k6.size hb7.size, fun k hk hs => (hb7.block k hk).trans (k6.block k hk hs)⟩
      generalize hLN : (svs ((S.take (j + 1)).map fun s => Tree.root (Til.sg L s.1 s.2))).length = LN at *
      have BT8 := hid (BT7.set2' (.slice a7 LN c7))
      have k8 := Keep.ofSet (S := fun k => k = w1.heap.size) w7 w1.heap.size 2 (.slice a7 LN c7) rfl
      have K8 := hid (k67.trans k8 fun _ _ e => e)
      have O8 := hid (hO7.keep k8 fun k hk e => by have := hO7.ge k hk; omega)
      clear hO7 hb7 BT6 BT7 k6 k67 k8 b6 iP hLN hst
      go_wp2_with (at_builtin; go_must (refine Lib.wpList_append_run _ rfl _ _ 24 24 rfl _ _ rfl rfl _ _ hap ?_))
      exact ⟨⟨j + 1, _, by omega, by go_num, BT8, O8, K8⟩, by simp [intOf]; omega⟩
    · obtain rfl : j = kk := by omega
      have d0 : ¬ (j : Int) < (j : Int) := by omega
      rw [← Hkk.out, List.take_length] at hO
      have hOi := O5.out.keep hK.out fun k hk e => by have := O5.out.ge k hk; omega
      obtain ⟨ah, ch, hvh, _, _, _⟩ := Own.at hO.out
      subst hvh
      have SW : Hid (BtI wr w.heap.size 0 (.slice none 0 0) (.slice none 0 0)) := (hK.out.block w.heap.size (lt_of_heap S5.out) (by omega)).trans S5.out
      have kc0 := SW.out.c0
      have kc1 := SW.out.c1
      have kc2 := SW.out.c2
      have kf0 : wr.frozen? ⟨w.heap.size, 0, none⟩ = false := frozen_of_row _ _ _ _ _ SW.out
      have kf1 : wr.frozen? ⟨w.heap.size, 1, none⟩ = false := frozen_of_row _ _ _ _ _ SW.out
      have kf2 : wr.frozen? ⟨w.heap.size, 2, none⟩ = false := frozen_of_row _ _ _ _ _ SW.out
      have u0 := hBT.out.c0
      have u1 := hBT.out.c1
      have u2 := hBT.out.c2
      have HOi := hid hOi
      generalize hLN : (List.map (fun s : Nat × Nat => Tree.root (Til.sg L s.1 s.2)) S).length = LN at *
      have q3 : Below w.heap.size wr _ := below_three (Below.refl w.heap.size wr) (Nat.le_refl w.heap.size) (.int .i64 (n : Int)) (.slice a3 is.length c3) (.slice ah LN ch)
      have hk1 : Keep (fun k => k = w.heap.size) wr (((wr.setCell ⟨w.heap.size, 0, none⟩ (.int .i64 (n : Int))).setCell ⟨w.heap.size, 1, none⟩ (.slice a3 is.length c3)).setCell ⟨w.heap.size, 2, none⟩ (.slice ah LN ch)) :=
        ((Keep.ofSet (S := fun k => k = w.heap.size) wr w.heap.size 0 _ rfl).trans (Keep.ofSet (S := fun k => k = w.heap.size) _ w.heap.size 1 _ rfl) fun _ _ e => e).trans (Keep.ofSet (S := fun k => k = w.heap.size) _ w.heap.size 2 _ rfl) fun _ _ e => e
      clear hOi
      go_wp2
      refine bodyPost_ret (results_row_tmp rfl _ _ w.heap.size 43 _ (0, 0) _ rfl (BtI.three SW.out (n : Int) (.slice a3 is.length c3) (.slice ah LN ch)) Tryz.underlying43 rfl sizeBt) rfl ?_
      clear hLN
      refine ⟨a3, c3, ah, ⟨ch, rfl⟩, ?_, ?_, BW.out.trans q3⟩
      · have o9 := HOi.out.keep hk1 fun k hk e => by have := HOi.out.ge k hk; have := ZB1.out; omega
        obtain ⟨a9, c9, e9, h9, _, _⟩ := Own.atI o9
        rw [hil] at e9
        injection e9 with e9 _ _
        subst e9
        exact h9
      · have o9 := hO.out.keep hk1 fun k hk e => by have := hO.out.ge k hk; have := ZB1.out; omega
        obtain ⟨a9, c9, e9, h9, _, _⟩ := Own.at o9
        injection e9 with e9 _ _
        subst e9
        exact h9
end Bat
end Go.Proofs.YtmpaliocfikifaaGreatDoor

namespace Go.Proofs.YtmpaliocfikifaaGreatDoor
open Go.RowKit Go.Shelf
namespace Bat
def ivz (l : List Int) : List Value := l.map fun x => .int .i64 x
theorem ivz_len (l : List Int) : (ivz l).length = l.length := by simp [ivz]
theorem ivz_one {L : List Int} {v : Value} (h : v ∈ ivz L) : v.oneCell' = true := by
  simp only [ivz, List.mem_map] at h
  obtain ⟨n, _, rfl⟩ := h
  rfl
theorem infoZ : (Tryz.prog.info? 3).map (fun i => (i.zero, i.size, i.bytes)) = some (some (.int .i64 0), 1, 8) := by kernel_rfl
theorem infoZ1 : (Tryz.prog.info? 3).map (·.size) = some 1 := by kernel_rfl
/-- a row of numbers -/
def RowZ (w : World) (H : Nat) (L : List Int) : Prop := w.heap[H]? = some (.cells (ivz L).toArray 3 (0, 0))
theorem RowZ.lt {w : World} {H : Nat} {L : List Int} (h : RowZ w H L) : H < w.heap.size := lt_of_heap h
theorem RowZ.cell {w : World} {H : Nat} {L : List Int} (h : RowZ w H L) {j : Nat} {p : Int} (hp : L[j]? = some p) : w.cell? ⟨H, j, none⟩ = some (.int .i64 p) := by
  rw [cell_of_row _ _ _ _ _ _ h]; simp [ivz, hp]
theorem RowZ.at {w : World} {H : Nat} {L : List Int} (h : RowZ w H L) : AtI w (some ⟨H, 0, none⟩) L := fun j p hp => ⟨_, rfl, h.lt, by rw [Addr.add_mid, Nat.zero_add]; exact h.cell hp⟩
theorem RowZ.free {w : World} {H : Nat} {L : List Int} (h : RowZ w H L) (j : Nat) : w.frozen? ⟨H, j, none⟩ = false := frozen_of_row _ _ _ _ _ h
theorem RowZ.below {w w' : World} {H B : Nat} {L : List Int} (h : RowZ w H L) (hb : Below B w w') (hB : H < B) : RowZ w' H L := (hb.block H hB).trans h
theorem RowZ.set {w : World} {H : Nat} {L : List Int} (h : RowZ w H L) (k : Nat) (x : Int) : RowZ (w.setCell ⟨H, k, none⟩ (.int .i64 x)) H (L.set k x) := by
  have e := setCell_eq_setRow w H k (ivz L).toArray 3 (0, 0) (.int .i64 x) h
  unfold RowZ
  rw [e, setRow_heap _ _ _ _ _ _ h]
  refine congrArg (fun A => some (Obj.cells A 3 (0, 0))) ?_
  simp [ivz, List.map_set]
theorem make_ints12 (w : World) (c : Nat) (hc : c ≤ 17592186044416) :
    (Instr.makeSlice 22 (.int .i64 (c : Int)) (.int .i64 (c : Int))).run Tryz.prog w = .ok (.slice (some ⟨w.heap.size, 0, none⟩) c c) (w.alloc (.cells (ivz (List.replicate c 0)).toArray 3)) := by
  obtain ⟨i0, hi, hz0, hz1, hz2⟩ := info_parts infoZ
  have h := run_make (P := Tryz.prog) w 22 3 i0 (.int .i64 0) Tryz.underlying22 hi hz0 .i64 .i64 (c : Int) (c : Int) (by omega) (by omega) (by rw [hz2]; omega) (by omega)
  rw [Int.toNat_natCast, hz1, Nat.mul_one] at h
  have e : madeCells (Value.int .i64 0).cells c = (ivz (List.replicate c 0)).toArray := by
    apply Array.ext'
    rw [show (madeCells (Value.int .i64 0).cells c).toList = List.replicate c (.int .i64 0) from toList_madeCells_one _ _]
    simp [ivz]
  rw [e] at h
  exact h
theorem copy_ints12 (w : World) (H : Nat) (a : Option Addr) (cap' : Nat) (ps rest : List Int) (hs : AtI w a ps) (hR : RowZ w H (List.replicate ps.length 0 ++ rest)) (m cap : Nat) (hm : m = ps.length + rest.length) :
    ∃ w', (Builtin.copy_ #[22, 22] 3 #[.slice (some ⟨H, 0, none⟩) m cap, .slice a ps.length cap']).run Tryz.prog w = .ok (goInt ps.length) w' ∧ RowZ w' H (ps ++ rest) ∧ But H w w' := by
  by_cases h0 : ps.length = 0
  · obtain rfl : ps = [] := List.length_eq_zero_iff.1 h0
    exact ⟨w, run_copy_none (P := Tryz.prog) w _ _ _ 3 _ _ _ _ _ _ Tryz.underlying22 infoZ1 (by simp), by simpa using hR, But.refl _ _⟩
  · obtain ⟨x, rfl, hx, _⟩ := hs 0 _ (List.getElem?_eq_getElem (by omega))
    have h := run_copy_row (P := Tryz.prog) w 22 22 3 3 H 0 m cap x ps.length cap' _ 3 (ivz ps) Tryz.underlying22 infoZ1 hR
      (by rw [ivz_len]; exact (Nat.min_eq_left (by omega)).symm) (fun j u hu => by
        simp only [ivz, List.getElem?_map, Option.map_eq_some_iff] at hu
        obtain ⟨p, hp, rfl⟩ := hu
        obtain ⟨y, hy, _, hc⟩ := hs j p hp
        cases hy
        exact hc) (by simp [ivz]) (fun u hu => ivz_one hu)
    refine ⟨_, h.trans (by rw [ivz_len]), ?_, (But.refl _ _).setRow _⟩
    unfold RowZ
    rw [setRow_heap _ _ _ _ _ _ hR]
    refine congrArg (fun A => some (Obj.cells A 3 (0, 0))) ?_
    simp [ivz]
def b71 (j : Nat) : List Int := List.replicate j (-71) ++ List.replicate (8 - j) 0
theorem b71_set (ps : List Int) {j : Nat} (hj : j < 8) : (ps ++ b71 j).set (ps.length + j) (-71) = ps ++ b71 (j + 1) := by
  rw [List.set_append_right _ _ (by omega), Nat.add_sub_cancel_left, b71, b71, show 8 - j = (8 - (j + 1)) + 1 by omega, List.replicate_succ, List.set_append_right _ _ (by simp), List.length_replicate, Nat.sub_self, List.replicate_succ', List.append_assoc]
  rfl
theorem b71_len (j : Nat) (hj : j ≤ 8) : (b71 j).length = 8 := by simp [b71]; omega
set_option maxRecDepth 100000 in
set_option maxHeartbeats 2000000 in
theorem lentInts12_any (ps : List Int) (a : Option Addr) (cap : Nat) (w : World) (hn : ps.length ≤ 17592186044400) (hA : AtI w a ps) :
    Calls Tryz.prog 12 #[.slice a ps.length cap] w fun e w' => e = .returned (.slice (some ⟨w.heap.size, 0, none⟩) (ps.length + 8) (ps.length + 8)) ∧ RowZ w' w.heap.size (ps ++ List.replicate 8 (-71)) ∧ Below w.heap.size w w' := by
  have hmk := make_ints12 w (ps.length + 8) (by omega)
  have e8 : ((ps.length + 8 : Nat) : Int) = (ps.length : Int) + 8 := by omega
  rw [e8] at hmk
  have R1 : RowZ (w.alloc (.cells (ivz (List.replicate (ps.length + 8) 0)).toArray 3)) w.heap.size (List.replicate ps.length 0 ++ List.replicate 8 0) := by
    rw [List.replicate_append_replicate]; exact heap_alloc_new w _
  have hb1 := (Below.refl w.heap.size w).alloc (Nat.le_refl _) (.cells (ivz (List.replicate (ps.length + 8) 0)).toArray 3)
  obtain ⟨w2, hcp, hR2, hb2⟩ := copy_ints12 _ w.heap.size a cap ps (List.replicate 8 0) (hA.below hb1 (Nat.le_refl _)) R1 (ps.length + 8) (ps.length + 8) (by simp)
  have B2 : Below w.heap.size w w2 := hb1.trans (hb2.below (Nat.le_refl _) (by rw [size_alloc]; omega))
  have HR2 : Hid (RowZ w2 w.heap.size (ps ++ b71 0)) := hR2
  have HB2 := hid B2
  clear hR2 B2 R1 hb2 hb1 hA
  generalize w.alloc (.cells (ivz (List.replicate (ps.length + 8) 0)).toArray 3) = w1 at *
  obtain ⟨n, hpn⟩ : ∃ n, ps.length = n := ⟨_, rfl⟩
  rw [hpn] at hmk hcp hn ⊢
  go_enter Tryz.func12, Tryz.ntmps12
  go_wp2
  clear hcp hmk
  go_loopw [4] (fun i w' => ∃ j : Nat, j ≤ 8 ∧ i = .int .i64 ((n : Int) + (j : Int)) ∧ Hid (RowZ w' w.heap.size (ps ++ b71 j)) ∧ Hid (Below w.heap.size w w')) (fun i _ => n + 8 - (intOf i).toNat)
  case atStart => exact ⟨0, by omega, by simp, HR2, HB2⟩
  case round =>
    clear HR2 HB2
    obtain ⟨j, hj, rfl, hR, hB⟩ := hrel
    by_cases hlt : j < 8
    · have b0 : (n : Int) + (j : Int) < (n : Int) + 8 := by omega
      have b1 : (0 : Int) ≤ (n : Int) + (j : Int) := by omega
      have t1 : ((n : Int) + (j : Int)).toNat = n + j := by omega
      have hl : (ps ++ b71 j).length = n + 8 := by rw [List.length_append, b71_len j (by omega), hpn]
      have cp := hR.out.cell (List.getElem?_eq_getElem (show n + j < (ps ++ b71 j).length by omega))
      have fz := hR.out.free (n + j)
      have R' := hR.out.set (n + j) (-71)
      rw [← hpn, b71_set ps hlt, hpn] at R'
      have B' := hid (hB.out.setCell (p := ⟨w.heap.size, n + j, none⟩) (Nat.le_refl _) (.int .i64 (-71)))
      have R'' := hid R'
      clear R' hR hB
      go_wp2
      exact ⟨⟨j + 1, by omega, by rw [show (n : Int) + (j : Int) + 1 = (n : Int) + ((j + 1 : Nat) : Int) from by omega], R'', B'⟩, by simp [intOf]; omega⟩
    · obtain rfl : j = 8 := by omega
      have b0 : ¬ (n : Int) + ((8 : Nat) : Int) < (n : Int) + 8 := by omega
      go_wp2
      go_ret
      exact ⟨rfl, hR.out, hB.out⟩
set_option maxRecDepth 100000 in
set_option maxHeartbeats 2000000 in
theorem keptInts12_any (ps : List Int) (H : Nat) (c : Nat) (a : Option Addr) (cap : Nat) (w : World) (hn : ps.length ≤ 17592186044400) (hc : ps.length + 8 ≤ c) (hR : RowZ w H (ps ++ List.replicate 8 (-71))) (hA : AtI w a ps) :
    Calls Tryz.prog 20 #[.slice (some ⟨H, 0, none⟩) (ps.length + 8) c, .slice a ps.length cap] w fun e w' => e = .returned (.bool true) ∧ Below w.heap.size w w' ∧ w'.heap = w.heap := by
  have hA1 : AtI w (some ⟨H, 0, none⟩) ps := fun j p hp => hR.at j p (by rw [List.getElem?_append_left (List.getElem?_eq_some_iff.1 hp).1]; exact hp)
  have cS := fun w' (hb : Below w.heap.size w w') => sameI_yes ps (some ⟨H, 0, none⟩) a c cap w' (hA1.below hb (Nat.le_refl _)) (hA.below hb (Nat.le_refl _)) (by omega)
  have HR := hid hR
  obtain ⟨n, hpn⟩ : ∃ n, ps.length = n := ⟨_, rfl⟩
  rw [hpn] at cS hn hc ⊢
  clear hA hA1 hR
  have hnn : (n : Int) ≤ (n : Int) + 8 := by omega
  have hnc : (n : Int) ≤ (c : Int) := by omega
  have HS := hid cS
  clear cS
  go_enter Tryz.func20, Tryz.ntmps20
  go_wp2
  go_loopw [5] (fun i w' => ∃ j : Nat, j ≤ 8 ∧ i = .int .i64 ((n : Int) + (j : Int)) ∧ Hid (Below w.heap.size w w' ∧ w'.heap = w.heap)) (fun i _ => n + 8 - (intOf i).toNat)
  case atStart => exact ⟨0, by omega, by simp, hid ⟨Below.refl _ _, rfl⟩⟩
  case round =>
    obtain ⟨j, hj, rfl, hB⟩ := hrel
    by_cases hlt : j < 8
    · have b0 : (n : Int) + (j : Int) < (n : Int) + 8 := by omega
      have b1 : (0 : Int) ≤ (n : Int) + (j : Int) := by omega
      have t1 : ((n : Int) + (j : Int)).toNat = n + j := by omega
      have cp := HR.out.cell (j := n + j) (p := -71) (by
        rw [List.getElem?_append_right (by omega), hpn, show n + j - n = j from by omega, List.getElem?_replicate, if_pos hlt])
      rw [← hB.out.1.cell (p := ⟨H, n + j, none⟩) HR.out.lt] at cp
      go_wp2
      exact ⟨⟨j + 1, by omega, by rw [show (n : Int) + (j : Int) + 1 = (n : Int) + ((j + 1 : Nat) : Int) from by omega], hB⟩, by simp [intOf]; omega⟩
    · obtain rfl : j = 8 := by omega
      have b0 : ¬ (n : Int) + ((8 : Nat) : Int) < (n : Int) + 8 := by omega
      go_wp2_with (go_at_call 17; refine (HS.out _ hB.out.1).mono ?_; rintro e w9 ⟨rfl, hw9, hh9⟩)
      go_ret
      exact ⟨rfl, hB.out.1.trans (hw9.mono hB.out.1.size), hh9.trans hB.out.2⟩
end Bat
end Go.Proofs.YtmpaliocfikifaaGreatDoor

namespace Go.Proofs.YtmpaliocfikifaaGreatDoor
open Go.RowKit

theorem Own.setT {w : World} {base g cap : Nat} {cs : List Value} (h : Own w base (.slice (some ⟨g, 0, none⟩) cs.length cap) cs) (k : Nat) (hk : k < cs.length) (x : Value) :
    Own (w.setCell ⟨g, k, none⟩ x) base (.slice (some ⟨g, 0, none⟩) (cs.set k x).length cap) (cs.set k x) := by
  rcases h with ⟨h, _⟩ | ⟨g', cap', h, h1, h2, h3, h4, h5, h6⟩
  · cases h
  · injection h with e1 e2 e3
    injection e1 with e1
    injection e1 with e1
    subst e1 e3
    refine .inr ⟨g, cap, rfl, h1, by rw [List.length_set]; exact h2, h3, fun j v hv => ?_, fun j hj => ?_, by simpa [World.setCell] using h6⟩
    · rw [Nat.zero_add]
      rw [List.getElem?_set] at hv
      split at hv
      · rename_i e
        subst e
        cases hv
        have := (h5 k (by omega)).1
        rw [Nat.zero_add] at this
        exact World.cell?_setCell_same' _ _ _ this
      · rename_i e
        have := h4 j v hv
        rw [Nat.zero_add] at this
        exact (World.cell?_setCell_other _ _ _ _ (by intro h; injection h; omega)).trans this
    · have := h5 j hj
      rw [Nat.zero_add] at this ⊢
      refine ⟨?_, by rw [World.frozen?_setCell]; exact this.2⟩
      by_cases e : j = k
      · subst e
        rw [World.cell?_setCell_same' _ _ _ this.1]; rfl
      · rw [World.cell?_setCell_other _ _ _ _ (by intro h; injection h; omega)]
        exact this.1
/-- append([][]string(nil), ls...) -/
theorem append_free (w : World) (base : Nat) (vf : Value) (us : List Value) (hown : Own w base vf us) (h1c : ∀ u ∈ us, u.oneCell' = true) (h0 : 0 < us.length) (hlen : us.length ≤ 1000000) :
    ∃ v' w', (Builtin.append_ #[38, 38] 38 #[.slice none 0 0, vf]).run Tryz.prog w = .ok v' w' ∧ Own w' w.heap.size v' us ∧ Below w.heap.size w w' := by
  obtain ⟨i0, hi, hz0, hz1, hz2⟩ := info_parts infoLS
  have hsrc : Src Tryz.prog 1 38 vf us.length us w := by
    rcases hown with ⟨rfl, h⟩ | ⟨g, cap, rfl, h1, h2, h3, h4, h5, h6⟩
    · subst h; simp at h0
    · exact Src.ofSlice w Tryz.underlying38 ⟨g, 0, none⟩ us.length cap us (by rw [Nat.mul_one]) (fun j u hj => by rw [Addr.add_mid]; exact h4 j u hj) h1c
  obtain ⟨v', w', h1, h2, h3, h4⟩ := run_append_O (P := Tryz.prog) w w.heap.size 38 38 38 24 i0 (.slice none 0 0) Tryz.underlying38 hi hz0 hz1 rfl (.slice none 0 0) [] (Own.nil _ _) vf us.length us hsrc
    (by rw [hz2]; simp; omega) (by rw [maxLen]; simp; omega) (Nat.le_refl _) (fun _ => h0)
  exact ⟨v', w', h1, by simpa using h2, Below.ofGrown h3 (Own.nil w w.heap.size).ge (Nat.le_refl _)⟩
/-- the book while its lists are marked -/
structure M2 (w : World) (X base : Nat) (vl : Value) (us : List Value) (Ls : List (List (List UInt8))) : Prop where
  row : w.heap[X]? = some (.cells #[.slice none 0 0, .slice none 0 0, vl, .slice none 0 0, .slice none 0 0] 40 (0, 0))
  lists : Own w base vl us
  len : Ls.length = us.length
  dX : ∀ k, vl.ownBlock = some k → k ≠ X
  own : ∀ (i : Nat) (u : Value) (L : List (List UInt8)), us[i]? = some u → Ls[i]? = some L → Own w base u (svs L) ∧ L.length ≤ 1000000
  ap : ∀ (i : Nat) (u : Value) (g : Nat), us[i]? = some u → u.ownBlock = some g → g ≠ X ∧ vl.ownBlock ≠ some g
  di : ∀ (i j : Nat) (u v : Value) (g : Nat), us[i]? = some u → us[j]? = some v → u.ownBlock = some g → v.ownBlock = some g → i = j
theorem M2.below {w w' : World} {X base : Nat} {vl : Value} {us : List Value} {Ls : List (List (List UInt8))} (h : M2 w X base vl us Ls) (hb : Below w.heap.size w w') : M2 w' X base vl us Ls where
  row := (hb.block X (lt_of_heap h.row)).trans h.row
  lists := h.lists.below hb (Nat.le_refl _)
  len := h.len
  dX := h.dX
  own := fun i u L h1 h2 => ⟨(h.own i u L h1 h2).1.below hb (Nat.le_refl _), (h.own i u L h1 h2).2⟩
  ap := h.ap
  di := h.di
theorem M2.set {w : World} {X base : Nat} {vl : Value} {us : List Value} {Ls : List (List (List UInt8))} (h : M2 w X base vl us Ls) {i g n c k : Nat} {L : List (List UInt8)} (hu : us[i]? = some (.slice (some ⟨g, 0, none⟩) n c)) (hL : Ls[i]? = some L) (hk : k < L.length) (m : List UInt8) :
    M2 (w.setCell ⟨g, k, none⟩ (sv m)) X base vl us (Ls.set i (L.set k m)) := by
  have hap := h.ap i _ g hu rfl
  have ho := (h.own i _ L hu hL).1
  have hset : ∀ b, b ≠ g → (w.setCell ⟨g, k, none⟩ (sv m)).heap[b]? = w.heap[b]? := fun b hb => Below.heap_setCell w _ _ b hb
  have hsz : (w.setCell ⟨g, k, none⟩ (sv m)).heap.size = w.heap.size := by simp [World.setCell]
  refine ⟨(hset X (Ne.symm hap.1)).trans h.row, h.lists.same (by rw [hsz]; exact Nat.le_refl _) fun b hb => hset b fun e => hap.2 (e ▸ hb), by rw [List.length_set]; exact h.len, h.dX, fun j u L' h1 h2 => ?_, h.ap, h.di⟩
  by_cases e : j = i
  · subst e
    rw [hu] at h1
    obtain rfl := Option.some.inj h1
    have hj : j < Ls.length := (List.getElem?_eq_some_iff.1 hL).1
    rw [List.getElem?_set_self hj] at h2
    obtain rfl := Option.some.inj h2
    have hn : n = (svs L).length := by
      rcases own_cases ho with ⟨e, _⟩ | ⟨g', c', e, _⟩
      · cases e
      · injection e
    have h3 := Own.setT (cs := svs L) (by rw [← hn]; exact ho) k (by rw [svs_length]; exact hk) (sv m)
    have e1 : (svs L).set k (sv m) = svs (L.set k m) := by simp [svs, List.map_set]
    rw [e1] at h3
    have e2 : (svs (L.set k m)).length = n := by rw [hn, svs_length, svs_length, List.length_set]
    rw [e2] at h3
    exact ⟨h3, by rw [List.length_set]; exact (h.own j _ L hu hL).2⟩
  · rw [List.getElem?_set_ne (Ne.symm e)] at h2
    refine ⟨(h.own j u L' h1 h2).1.same (by rw [hsz]; exact Nat.le_refl _) fun b hb => hset b fun e' => ?_, (h.own j u L' h1 h2).2⟩
    subst e'
    exact e (h.di j i u _ b h1 hu hb rfl)
/-- all are marked: now they may grow -/
theorem M2.start {w : World} {X base : Nat} {vl : Value} {us : List Value} {Ls : List (List (List UInt8))} (h : M2 w X base vl us Ls) (hm : ∀ (j : Nat) (L : List (List UInt8)), Ls[j]? = some L → L = List.replicate L.length (mrk j)) :
    ∃ μ, St w X base vl (.slice none 0 0) (.slice none 0 0) us [] [] μ ∧ ∀ (i : Nat) (u : Value), us[i]? = some u → ∃ n, n ≤ 1000000 ∧ Xs w base u i n μ := by
  classical
  obtain ⟨μ, h1, h2⟩ : ∃ μ : Mu, (∀ g i ℓ, μ g = some (i, ℓ) → ∃ u, us[i]? = some u ∧ u.ownBlock = some g ∧ ∃ L, Ls[i]? = some L ∧ L.length = ℓ) ∧ (∀ (g i : Nat) (u : Value) (L : List (List UInt8)), us[i]? = some u → u.ownBlock = some g → Ls[i]? = some L → μ g = some (i, L.length)) := by
    refine ⟨fun g => if hh : ∃ p : Nat × Nat, ∃ u, us[p.1]? = some u ∧ u.ownBlock = some g ∧ ∃ L, Ls[p.1]? = some L ∧ L.length = p.2 then some hh.choose else none, fun g i ℓ hμ => ?_, fun g i u L a b c => ?_⟩
    · simp only at hμ
      split at hμ
      · rename_i hh
        have := hh.choose_spec
        rw [Option.some.inj hμ] at this
        exact this
      · cases hμ
    · have hh : ∃ p : Nat × Nat, ∃ u, us[p.1]? = some u ∧ u.ownBlock = some g ∧ ∃ L, Ls[p.1]? = some L ∧ L.length = p.2 := ⟨(i, L.length), u, a, b, L, c, rfl⟩
      simp only
      rw [dif_pos hh]
      obtain ⟨u', a', b', L', c', d'⟩ := hh.choose_spec
      have e1 : hh.choose.1 = i := h.di _ _ u' u g a' a b' b
      rw [e1, c] at c'
      obtain rfl := Option.some.inj c'
      refine congrArg some (Prod.ext e1 d'.symm)
  have hcell : ∀ g i ℓ, μ g = some (i, ℓ) → base ≤ g ∧ g < w.heap.size ∧ ¬ Bs X vl (.slice none 0 0) (.slice none 0 0) g ∧ ∀ j, j < ℓ → w.cell? ⟨g, j, none⟩ = some (sv (mrk i)) := fun g i ℓ hμ => by
    obtain ⟨u, a, b, L, c, d⟩ := h1 g i ℓ hμ
    obtain ⟨o, _⟩ := h.own i u L a c
    refine ⟨o.ge g b, o.lt g b, fun hB => ?_, fun j hj => own_cell o b ?_⟩
    · have hap := h.ap i u g a b
      rcases hB with e | e | e | e
      · exact hap.1 e
      · exact hap.2 e
      · cases e
      · cases e
    · rw [hm i L c, svs, List.getElem?_map, List.getElem?_replicate, if_pos (by omega)]; rfl
  have hen : ∀ (i : Nat) (u : Value), us[i]? = some u → ∃ n, n ≤ 1000000 ∧ Xs w base u i n μ := fun i u hu => by
    have hi : i < us.length := (List.getElem?_eq_some_iff.1 hu).1
    have hL : Ls[i]? = some (Ls[i]'(by rw [h.len]; exact hi)) := List.getElem?_eq_getElem _
    generalize Ls[i]'(by rw [h.len]; exact hi) = L at hL
    obtain ⟨o, hl⟩ := h.own i u L hu hL
    refine ⟨L.length, hl, ⟨by rw [← hm i L hL]; exact o, fun g hg => h2 g i u L hu hg hL, ?_⟩⟩
    rcases own_cases o with ⟨rfl, _⟩ | ⟨g, c, e1, e2⟩
    · exact .inl rfl
    · exact .inr ⟨g, _, c, L.length, e1, by rw [svs_length]; exact Nat.le_refl _, by omega, h2 g i u L hu e2 hL⟩
  refine ⟨μ, ⟨h.row, h.lists, Own.nil _ _, Own.nil _ _, fun k hk => ?_, fun k _ => ⟨fun e => (by cases e), fun e => (by cases e)⟩, fun k hk => (by cases hk), hcell, fun i u hu => ?_, fun j s i h1 => (by simp at h1), fun i hi => (by cases hi)⟩, hen⟩
  · rcases hk with hk | hk | hk
    · exact h.dX k hk
    · cases hk
    · cases hk
  · obtain ⟨n, _, hx⟩ := hen i u hu
    exact hx.en
end Go.Proofs.YtmpaliocfikifaaGreatDoor

namespace Go.Proofs.YtmpaliocfikifaaGreatDoor
open Go.RowKit
theorem En.of {μ μ' : Mu} {i : Nat} {s : Value} (e : En μ i s) (h : ∀ g ℓ, μ g = some (i, ℓ) → μ' g = some (i, ℓ)) : En μ' i s := by
  rcases e with rfl | ⟨g, n, c, ℓ, rfl, h1, h2, h3⟩
  · exact .inl rfl
  · exact .inr ⟨g, n, c, ℓ, rfl, h1, h2, h g ℓ h3⟩
theorem Xs.below {w w' : World} {base : Nat} {x : Value} {i ℓ : Nat} {μ : Mu} (h : Xs w base x i ℓ μ) (hb : Below w.heap.size w w') : Xs w' base x i ℓ μ := ⟨h.own.below hb (Nat.le_refl _), h.mrkd, h.en⟩
/-- another list grew -/
theorem Xs.other {w w' : World} {base : Nat} {x x' u : Value} {i j ℓ n : Nat} {μ μ' : Mu} (hu : Xs w base u j n μ) (hx : Xs w base x i ℓ μ) (hne : j ≠ i) (hg : Grow w w' x x') (hm : ∀ g k m, μ g = some (k, m) → k ≠ i → μ' g = some (k, m)) : Xs w' base u j n μ' := by
  refine ⟨hu.own.same hg.size fun g hgu => hg.old g (hu.own.lt g hgu) fun e => ?_, fun g hgu => hm g j n (hu.mrkd g hgu) hne, hu.en.of fun g m h => hm g j m h hne⟩
  have h1 := hx.mrkd g e
  rw [hu.mrkd g hgu] at h1
  injection h1 with h1
  exact hne (congrArg Prod.fst h1)
/-- the book's own lists grew -/
theorem Xs.book {w w' : World} {X base : Nat} {vl vg vh : Value} {us GS : List Value} {HS : List Nat} {μ : Mu} (hs : St w X base vl vg vh us GS HS μ) {x : Value} {i ℓ : Nat} (hx : Xs w base x i ℓ μ) {v v' : Value} (hv : v = vg ∨ v = vh) (hg : Grow w w' v v') (o : Nat) (y : Value) : Xs (w'.setCell ⟨X, o, none⟩ y) base x i ℓ μ := by
  refine ⟨hx.own.same (by simp [World.setCell]; exact hg.size) fun g hgx => ?_, hx.mrkd, hx.en⟩
  have hB := (hs.mkd g i ℓ (hx.mrkd g hgx)).2.2.1
  rw [Below.heap_setCell w' _ y g (fun e => hB (.inl e))]
  refine hg.old g (hx.own.lt g hgx) fun e => ?_
  rcases hv with rfl | rfl
  · exact hB (.inr (.inr (.inl e)))
  · exact hB (.inr (.inr (.inr e)))
theorem Grow.below {w w' : World} {v v' : Value} {base : Nat} (h : Grow w w' v v') (hv : ∀ k, v.ownBlock = some k → base ≤ k) (hb : base ≤ w.heap.size) : Below base w w' := ⟨h.os, h.tape, h.output, h.size, fun k hk => h.old k (by omega) fun e => by have := hv k e; omega⟩
theorem St.c2 {w : World} {X base : Nat} {vl vg vh : Value} {us GS : List Value} {HS : List Nat} {μ : Mu} (h : St w X base vl vg vh us GS HS μ) : w.cell? ⟨X, 2, none⟩ = some vl := by rw [cell_of_row _ _ _ _ _ _ h.row]; rfl
theorem St.c3 {w : World} {X base : Nat} {vl vg vh : Value} {us GS : List Value} {HS : List Nat} {μ : Mu} (h : St w X base vl vg vh us GS HS μ) : w.cell? ⟨X, 3, none⟩ = some vg := by rw [cell_of_row _ _ _ _ _ _ h.row]; rfl
theorem St.c4 {w : World} {X base : Nat} {vl vg vh : Value} {us GS : List Value} {HS : List Nat} {μ : Mu} (h : St w X base vl vg vh us GS HS μ) : w.cell? ⟨X, 4, none⟩ = some vh := by rw [cell_of_row _ _ _ _ _ _ h.row]; rfl
/-- the field that is stored behind an append -/
theorem St.field {w w' : World} {X base : Nat} {vl vg vh : Value} {us GS : List Value} {HS : List Nat} {μ : Mu} (h : St w X base vl vg vh us GS HS μ) {v v' : Value} (hv : v = vg ∨ v = vh) (hg : Grow w w' v v') : w'.cell? ⟨X, 3, none⟩ = some vg ∧ w'.frozen? ⟨X, 3, none⟩ = false ∧ w'.cell? ⟨X, 4, none⟩ = some vh ∧ w'.frozen? ⟨X, 4, none⟩ = false := by
  have hne : v.ownBlock ≠ some X := fun e => by
    rcases hv with rfl | rfl
    · exact h.dX X (.inr (.inl e)) rfl
    · exact h.dX X (.inr (.inr e)) rfl
  have r := (hg.old X (lt_of_heap h.row) hne).trans h.row
  exact ⟨by rw [cell_of_row _ _ _ _ _ _ r]; rfl, frozen_of_row _ _ _ _ _ r, by rw [cell_of_row _ _ _ _ _ _ r]; rfl, frozen_of_row _ _ _ _ _ r⟩
theorem ins_length (l : List Nat) : (ins l).length = l.length := by simp [ins]
theorem alloc_cell {w : World} {X : Nat} (hX : X < w.heap.size) (o : Nat) (ob : Obj) : (w.alloc ob).cell? ⟨X, o, none⟩ = w.cell? ⟨X, o, none⟩ := World.cell?_of_block (w := w) (Below.heap_alloc w ob X hX)
end Go.Proofs.YtmpaliocfikifaaGreatDoor
