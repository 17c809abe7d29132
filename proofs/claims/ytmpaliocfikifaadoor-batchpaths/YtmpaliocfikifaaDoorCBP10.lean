import Derived.Test.YtmpaliocfikifaaDoorCBP8
import Derived.Test.YtmpaliocfikifaaDoorCTL15
import Derived.Test.YtmpaliocfikifaaDoorCO52
import Derived.Test.YtmpaliocfikifaaDoorCBL1
import Derived.Test.YtmpaliocfikifaaDoorCO25
namespace Go.Proofs.YtmpaliocfikifaaDoor
open Go.RowKit Go.Shelf
namespace Bat
set_option maxRecDepth 100000 in
set_option maxHeartbeats 4000000 in
theorem expand12_bad (n : Int) (cs : List Int) (H L : List (List UInt8)) (ai ah al : Option Addr) (ci ch cl : Nat) (w : World) (hcs : cs.length ≤ 140737488355328) (hH : H.length ≤ 9223372036854775807) (hL : L.length ≤ 9223372036854775807) (hA : AtI w ai cs) (hAh : At w ah H) (hAl : At w al L) (he : knE n cs H L ≠ 0) :
    Calls Tryd.prog 11 #[bt n (.slice ai cs.length ci) (.slice ah H.length ch), .slice al L.length cl] w fun r w' => r = .returned (.tuple #[.slice none 0 0, .int .i64 (knE n cs H L)]) ∧ Below w.heap.size w w' := by
  have b0 := (Below.refl w.heap.size w).alloc (Nat.le_refl _) (.cells #[.int .i64 n, .slice ai cs.length ci, .slice ah H.length ch] 31)
  have s0 := BtI.new w n (.slice ai cs.length ci) (.slice ah H.length ch)
  have i1 := known12_bad n cs H L ai ah al ci ch cl _ hcs hH hL (hA.below b0 (Nat.le_refl _)) (hAh.below b0 (Nat.le_refl _)) (hAl.below b0 (Nat.le_refl _)) he
  generalize knE n cs H L = c at *
  have h0' : (c != 0) = true := by simpa using he
  have B0 := hid b0
  have x0 := s0.c0
  have x1 := s0.c1
  have x2 := s0.c2
  generalize H.length = hl at *
  generalize L.length = ll at *
  generalize cs.length = m at *
  clear hA hAh hAl b0 s0
  go_enter Tryd.func11, Tryd.ntmps11
  go_wp2_with (go_at_call 25; refine i1.mono ?_; rintro r w1 ⟨rfl, b1⟩; have B1 := hid (B0.out.trans (b1.mono B0.out.size)); clear b1)
  go_ret2
  exact ⟨rfl, B1.out⟩
theorem ivs_one12 {l : List Int} : ∀ u ∈ ivs l, u.oneCell' = true := fun u hu => by
  obtain ⟨x, _, rfl⟩ := List.mem_map.1 hu
  rfl
/-- append(v, l...) -/
theorem append_ints (w : World) (base : Nat) (v : Value) (K : List Int) (hown : Own w base v (ivs K)) (hbase : base ≤ w.heap.size) (a : Option Addr) (cap : Nat) (L : List Int) (hA : AtI w a L) (h0 : 0 < L.length) (hlen : K.length + L.length ≤ 17592186043904) :
    ∃ v' w', (Builtin.append_ #[22, 22] 22 #[v, .slice a L.length cap]).run Tryd.prog w = .ok v' w' ∧ Own w' base v' (ivs (K ++ L)) ∧ Below base w w' := by
  obtain ⟨i0, hi, hz0, hz1, hz2⟩ := info_parts infoBl
  obtain ⟨x, rfl⟩ := hA.pos h0
  have hsrc : Src Tryd.prog 1 22 (.slice (some x) L.length cap) L.length (ivs L) w :=
    Src.ofSlice w Tryd.underlying22 x L.length cap (ivs L) (by rw [ivs_length, Nat.mul_one]) (fun j u hj => by
      simp only [ivs, List.getElem?_map, Option.map_eq_some_iff] at hj
      obtain ⟨p, hp, rfl⟩ := hj
      obtain ⟨y, hy, _, hc⟩ := hA j p hp
      obtain rfl := Option.some.inj hy
      exact hc) (fun u hu => ivs_one12 u hu)
  obtain ⟨v', w', h1, h2, h3, h4⟩ := run_append_O (P := Tryd.prog) w base 22 22 22 3 i0 (.int .i64 0) Tryd.underlying22 hi hz0 hz1 rfl v (ivs K) hown _ L.length (ivs L) hsrc
    (by rw [ivs_length, hz2]; omega) (by rw [ivs_length, maxLen]; omega) hbase (fun _ => by omega)
  exact ⟨v', w', h1, by simpa [ivs] using h2, Below.ofGrown h3 hown.ge hbase⟩
theorem nen_int12 (x : Addr) (n c : Nat) (w : World) : (binOp .eql 22 (.slice (some x) n c) (.slice none 0 0)).run Tryd.prog w = .ok (.bool false) w := by kernel_rfl
theorem own_empty (w : World) : Own (w.alloc (.cells #[] 3)) w.heap.size (.slice (some ⟨w.heap.size, 0, none⟩) 0 0) (ivs []) :=
  .inr ⟨w.heap.size, 0, rfl, Nat.le_refl _, Nat.le_refl _, by rw [maxLen]; omega, (fun j v hv => by simp [ivs] at hv), (fun j hj => by omega), by simp⟩
set_option maxRecDepth 100000 in
set_option maxHeartbeats 4000000 in
/-- slices.Clone -/
theorem cloneI (a : Option Addr) (cap : Nat) (L : List Int) (w : World) (hA : AtI w a L) (h0 : 0 < L.length) (hlen : L.length ≤ 1000000) :
    Calls Tryd.prog 37 #[.slice a L.length cap] w fun r w' => ∃ v, r = .returned v ∧ Own w' w.heap.size v (ivs L) ∧ Below w.heap.size w w' := by
  have b0 := (Below.refl w.heap.size w).alloc (Nat.le_refl _) (.cells #[] 3)
  obtain ⟨v', w', hap, hO, hB⟩ := append_ints _ w.heap.size _ [] (own_empty w) (by simp) a cap L (hA.below b0 (Nat.le_refl _)) h0 (by simp; omega)
  obtain ⟨x, rfl⟩ := hA.pos h0
  have hne := nen_int12 x L.length cap
  have HO := hid hO
  have HB := hid (b0.trans hB)
  rw [List.nil_append] at HO
  generalize L.length = m at *
  clear hA hO hB b0
  go_enter Tryd.func37, Tryd.ntmps37
  go_wp2_with (at_builtin; go_must (refine Lib.wpList_append_run _ rfl _ _ 22 22 rfl _ _ rfl rfl _ _ hap ?_))
  go_ret
  exact ⟨_, rfl, HO.out, HB.out⟩
end Bat
end Go.Proofs.YtmpaliocfikifaaDoor

namespace Go.Proofs.YtmpaliocfikifaaDoor
open Go.RowKit Go.Shelf
namespace Bat
/-- B2 -/
def prvE (k : Nat) (n : Int) (cs : List Int) : Int := if 1 ≤ n ∧ n ≤ (k : Int) then tolE n cs else 121
/-- nothing: beside an error -/
abbrev bt0 : Value := .agg #[.int .i64 0, .slice none 0 0, .slice none 0 0]
theorem sizeBt : (Tryd.prog.info? 31).map (·.size) = some 3 := by kernel_rfl
theorem BtI.three {w : World} {g : Nat} {n : Int} {vi vh : Value} (h : BtI w g n vi vh) (n' : Int) (vi' vh' : Value) : BtI (((w.setCell ⟨g, 0, none⟩ (.int .i64 n')).setCell ⟨g, 1, none⟩ vi').setCell ⟨g, 2, none⟩ vh') g n' vi' vh' :=
  heap_setCell_same _ g 2 _ _ _ (heap_setCell_same _ g 1 _ _ _ (heap_setCell_same w g 0 _ _ _ h))
theorem below_three {w w' : World} {B g : Nat} (h : Below B w w') (hg : B ≤ g) (a b c : Value) : Below B w (((w'.setCell ⟨g, 0, none⟩ a).setCell ⟨g, 1, none⟩ b).setCell ⟨g, 2, none⟩ c) :=
  Below.setCell (p := ⟨g, 2, none⟩) (Below.setCell (p := ⟨g, 1, none⟩) (Below.setCell (p := ⟨g, 0, none⟩) h hg _) hg _) hg _
set_option maxRecDepth 100000 in
set_option maxHeartbeats 4000000 in
theorem prove12_bad {w : World} {q h : Nat} {L : List (List UInt8)} {F : Nat → Prop} (t : TrL w q h L F) (n : Int) (cs : List Int) (a : Option Addr) (cap : Nat) (hcs : cs.length ≤ 140737488355328) (hA : AtI w a cs) (he : prvE L.length n cs ≠ 0) :
    Calls Tryd.prog 17 #[.pointer (some ⟨q, 0, none⟩), .int .i64 n, .slice a cs.length cap] w fun r w' => r = .returned (.tuple #[bt0, .int .i64 (prvE L.length n cs)]) ∧ Below w.heap.size w w' := by
  have b0 := (Below.refl w.heap.size w).alloc (Nat.le_refl _) (.cells #[.int .i64 0, .slice none 0 0, .slice none 0 0] 31)
  have s0 := BtI.new w 0 (.slice none 0 0) (.slice none 0 0)
  have i1 := tSizeL (t.below b0)
  have i2 := told12_any n cs a cap _ hcs (hA.below b0 (Nat.le_refl _))
  have HS := hid s0
  have B0 := hid b0
  have hc0 := s0.c0
  have hc1 := s0.c1
  have hc2 := s0.c2
  have hf0 : (w.alloc (.cells #[.int .i64 0, .slice none 0 0, .slice none 0 0] 31)).frozen? ⟨w.heap.size, 0, none⟩ = false := frozen_of_row _ _ _ _ _ s0
  have hf1 : (w.alloc (.cells #[.int .i64 0, .slice none 0 0, .slice none 0 0] 31)).frozen? ⟨w.heap.size, 1, none⟩ = false := frozen_of_row _ _ _ _ _ s0
  have hf2 : (w.alloc (.cells #[.int .i64 0, .slice none 0 0, .slice none 0 0] 31)).frozen? ⟨w.heap.size, 2, none⟩ = false := frozen_of_row _ _ _ _ _ s0
  by_cases h1 : 1 ≤ n ∧ n ≤ (L.length : Int)
  · have e : prvE L.length n cs = tolE n cs := by unfold prvE; rw [if_pos h1]
    rw [e] at he ⊢
    have g1 : ¬ n < 1 := by omega
    have g2 : ¬ (L.length : Int) < n := by omega
    have g3 : (tolE n cs != 0) = true := by simpa using he
    generalize tolE n cs = c at *
    generalize batchL n cs = B at *
    generalize cs.length = m at *
    generalize L.length = k at *
    clear t hA b0 s0 e
    go_enter Tryd.func17, Tryd.ntmps17
    go_wp2_with (first
      | (go_at_call 35; refine i1.mono ?_; rintro r w1 ⟨rfl, h0⟩; have h0 := h0.symm; subst h0)
      | (go_at_call 24; refine i2.mono ?_; rintro r w1 ⟨b1, v1, rfl, o1, f1⟩; have B1 := hid (B0.out.trans (b1.mono B0.out.size)); have S1 := hid (HS.out.below b1); have kc0 := S1.out.c0; have kc1 := S1.out.c1; have kc2 := S1.out.c2; have kf0 : w1.frozen? ⟨w.heap.size, 0, none⟩ = false := frozen_of_row _ _ _ _ _ S1.out; have kf1 : w1.frozen? ⟨w.heap.size, 1, none⟩ = false := frozen_of_row _ _ _ _ _ S1.out; have kf2 : w1.frozen? ⟨w.heap.size, 2, none⟩ = false := frozen_of_row _ _ _ _ _ S1.out; clear b1 o1 f1))
    refine bodyPost_ret (results_row_tmp rfl _ _ w.heap.size 31 _ (0, 0) _ rfl (BtI.three S1.out 0 (.slice none 0 0) (.slice none 0 0)) Tryd.underlying31 rfl sizeBt) rfl ⟨rfl, ?_⟩
    exact below_three B1.out (Nat.le_refl _) _ _ _
  · have e : prvE L.length n cs = 121 := by unfold prvE; rw [if_neg h1]
    rw [e]
    clear i2 he e
    generalize cs.length = m at *
    by_cases g1 : n < 1
    · clear i1 h1 t hA b0 s0
      go_enter Tryd.func17, Tryd.ntmps17
      go_wp2
      refine bodyPost_ret (results_row_tmp rfl _ _ w.heap.size 31 _ (0, 0) _ rfl HS.out Tryd.underlying31 rfl sizeBt) rfl ⟨rfl, B0.out⟩
    · have g2 : (L.length : Int) < n := by omega
      generalize L.length = k at *
      clear h1 t hA b0 s0
      go_enter Tryd.func17, Tryd.ntmps17
      go_wp2_with (go_at_call 35; refine i1.mono ?_; rintro r w1 ⟨rfl, h0⟩; have h0 := h0.symm; subst h0)
      refine bodyPost_ret (results_row_tmp rfl _ _ w.heap.size 31 _ (0, 0) _ rfl HS.out Tryd.underlying31 rfl sizeBt) rfl ⟨rfl, B0.out⟩
/-- the told hashes of a tree -/
def tolH (L : List (List UInt8)) (n : Nat) (is : List Nat) : List (List UInt8) := (Tree.othF n 0 n is).map fun s => Tree.root (Til.sg L s.1 s.2)
/-- what Prove answers -/
def PrvP (w : World) (n : Nat) (is : List Nat) (H : List (List UInt8)) (r : Ending) (w' : World) : Prop :=
  ∃ vi g, r = .returned (.tuple #[bt (n : Int) vi (.slice (some ⟨g, 0, none⟩) H.length H.length), .int .i64 0]) ∧ Own w' w.heap.size vi (ivs (ix is)) ∧ Row w' g H ∧ w.heap.size ≤ g ∧ vi.ownBlock ≠ some g ∧ Below w.heap.size w w'
set_option maxRecDepth 100000 in
set_option maxHeartbeats 8000000 in
theorem prove12_ok {w : World} {q h : Nat} {L : List (List UInt8)} {F : Nat → Prop} (t : TrL w q h L F) (Z : Tb w) (n : Nat) (is : List Nat) (hb0 : BatOk (n : Int) (ix is)) (hn : n ≤ L.length) (a : Option Addr) (cap : Nat) (hA : AtI w a (ix is)) :
    Calls Tryd.prog 17 #[.pointer (some ⟨q, 0, none⟩), .int .i64 (n : Int), .slice a is.length cap] w (PrvP w n is (tolH L n is)) := by
  have hil : (ix is).length = is.length := by simp [ix]
  have n1 := hb0.n1
  have n2 := hb0.n2
  have l1 := hb0.l1
  have l2 := hb0.l2
  have hto : toN (ix is) = is := by unfold toN ix; rw [List.map_map]; exact List.map_id'' (fun i => Int.toNat_natCast i) is
  have hE := batchE_ok hb0
  have hT : batchL (n : Int) (ix is) = Tree.othF n 0 n is := by unfold batchL; rw [if_pos hE, hto, Int.toNat_natCast]
  have hup : is.Pairwise (· < ·) := by
    have := hb0.so
    unfold ix at this
    rw [List.pairwise_map] at this
    exact this.imp fun h => by omega
  have hTle : (Tree.othF n 0 n is).length ≤ n := by
    have := Tree.oth_count is (hup.imp fun h e => by omega) n 0 n (Nat.le_refl _) (by omega)
    omega
  obtain ⟨Tn, Ti⟩ := apt_nodup (Tree.othF_apart is n 0 n (by omega) (Nat.le_refl _))
  have hn20 := t.n20
  have b0 := (Below.refl w.heap.size w).alloc (Nat.le_refl _) (.cells #[.int .i64 0, .slice none 0 0, .slice none 0 0] 31)
  have s0 := BtI.new w 0 (.slice none 0 0) (.slice none 0 0)
  have i1 := tSizeL (t.below b0)
  have i2 := told12_any (n : Int) (ix is) a cap _ (by omega) (hA.below b0 (Nat.le_refl _))
  rw [tolE_zero.2 hE, hT, hil] at i2
  have iC := fun w' (hb : Below w.heap.size w w') => cloneI a cap (ix is) w' (hA.below hb (Nat.le_refl _)) l1 (by omega)
  rw [hil] at iC
  unfold tolH
  have hTi : ∀ s ∈ Tree.othF n 0 n is, s.1 ≤ s.2 ∧ s.2 ≤ L.length := fun s hs => by have := Ti s hs; omega
  generalize Tree.othF n 0 n is = S at *
  have HT := hid t
  have HZ := hid Z
  have hZl := Z.lt
  have HTI := hid hTi
  have HS := hid s0
  have B0 := hid b0
  obtain ⟨k, hk⟩ : ∃ k, S.length = k := ⟨_, rfl⟩
  have Hk := hid hk
  rw [hk] at hTle
  have mk := fun w' => make_texts w' k (by omega)
  have g1 : ¬ (n : Int) < 1 := by omega
  have g2 : ¬ (L.length : Int) < (n : Int) := by omega
  clear t Z hb0 hA hil l1 l2 hto hE hT hup Tn Ti b0 s0 hTi hk
  go_enter Tryd.func17, Tryd.ntmps17
  go_wp2_with (first
    | (go_at_call 35; refine i1.mono ?_; rintro r w1 ⟨rfl, h0⟩; have h0 := h0.symm; subst h0)
    | (go_at_call 24; refine i2.mono ?_; rintro r w1 ⟨b1, v1, rfl, o1, f1⟩; obtain ⟨a1, c1, rfl, q1, q2⟩ := OwnM.shape o1; have B1 := hid (B0.out.trans (b1.mono B0.out.size)); have S1 := hid (HS.out.below b1); have O1 := hid o1; have mk1 := mk w1; rw [Hk.out]; clear b1 o1 f1))
  have R0 : Hid (Row (w1.alloc (.cells (svs (List.replicate k [])).toArray 9)) w1.heap.size (vpre (fun s : Nat × Nat => Tree.root (Til.sg L s.1 s.2)) S 0)) := by
    have := heap_alloc_new w1 (.cells (svs (List.replicate k [])).toArray 9)
    unfold Hid Row
    rw [vpre_zero, Hk.out]
    exact this
  have BA := hid ((Below.refl w1.heap.size w1).alloc (Nat.le_refl _) (.cells (svs (List.replicate k [])).toArray 9))
  have hgl := lt_of_heap S1.out
  have z1 := B1.out.size
  clear mk mk1 i1 i2 HS B0
  go_loopw [11, 12, 37] (fun _ _ i w' => ∃ j : Nat, j ≤ k ∧ i = .int .i64 (j : Int) ∧ Hid (Row w' w1.heap.size (vpre (fun s : Nat × Nat => Tree.root (Til.sg L s.1 s.2)) S j)) ∧ Hid (Below w1.heap.size w1 w')) (fun _ _ i _ => k - (intOf i).toNat)
  case atStart => exact ⟨0, by omega, rfl, R0, BA⟩
  case round =>
    clear R0 BA
    obtain ⟨j, hj, rfl, hR, hB⟩ := hrel
    have BW := hid (B1.out.trans (hB.out.mono z1))
    by_cases hjk : j < k
    · have b0 : (j : Int) < (k : Int) := by omega
      have j0 : (0 : Int) ≤ (j : Int) := by omega
      have hjS : j < S.length := by rw [Hk.out]; exact hjk
      obtain ⟨g, rfl, hg, c0, c1'⟩ := ownP_at (O1.out.below hB.out) (List.getElem?_eq_getElem hjS)
      have hs := HTI.out S[j] (List.getElem_mem hjS)
      have hset := hid (vpre_set (fun s : Nat × Nat => Tree.root (Til.sg L s.1 s.2)) S hjS)
      have hlen := vpre_len (fun s : Nat × Nat => Tree.root (Til.sg L s.1 s.2)) S (Nat.le_of_lt hjS)
      have HX : Hid (tPartO L (S[j].1 : Int) (S[j].2 : Int) = (Tree.root (Til.sg L S[j].1 S[j].2), 0)) := tPartO_nat hs.1 hs.2
      have hbs := (Below.refl wr.heap.size wr).alloc (Nat.le_refl _) (.cells #[.int .i64 (S[j].1 : Int), .int .i64 (S[j].2 : Int)] 67)
      have s0 := SpI.new wr (S[j].1 : Int) (S[j].2 : Int)
      have sc0 := s0.c0
      have sc1 := s0.c1
      have b1 := BW.out.trans (hbs.mono BW.out.size)
      have R1 := hR.out.below hbs hR.out.lt
      have i1 := tPart_any (HT.out.below b1) (S[j].1 : Int) (S[j].2 : Int) (HZ.out.below b1 hZl) HX
      have b2 := hid (hB.out.trans (hbs.mono hB.out.size))
      generalize (S[j].1 : Int) = x0 at *
      generalize (S[j].2 : Int) = x1 at *
      generalize Tree.root (Til.sg L S[j].1 S[j].2) = r at *
      rw [show sv r = Value.string ⟨r.toArray⟩ from rfl] at i1
      have HR1 := hid R1
      clear hs HX hbs s0 hR hB b1 R1
      go_wp2_with (go_at_call 36; refine i1.mono ?_; rintro e w2 ⟨rfl, b3⟩; have B3 := hid b3; have R2 := hid (HR1.out.below b3 HR1.out.lt); clear b3; have f2 := R2.out.free (j := j) (by rw [hlen, Hk.out]; exact hjk); have d2 := R2.out.cell (List.getElem?_eq_getElem (show j < (vpre (fun s : Nat × Nat => Tree.root (Til.sg L s.1 s.2)) S j).length by rw [hlen, Hk.out]; exact hjk)))
      refine ⟨⟨j + 1, by omega, by go_num, ?_, ?_⟩, by simp [intOf]; omega⟩
      · have := R2.out.set j r
        rw [hset.out] at this
        exact this
      · exact Below.setCell (p := ⟨w1.heap.size, j, none⟩) (b2.out.trans (B3.out.mono b2.out.size)) (Nat.le_refl _) _
    · obtain rfl : j = k := by omega
      have b0 : ¬ (j : Int) < (j : Int) := by omega
      have i3 := iC _ BW.out
      have RW := hR.out
      rw [← Hk.out, vpre_all] at RW
      have HRW := hid RW
      have hlm := hid (show (List.map (fun s : Nat × Nat => Tree.root (Til.sg L s.1 s.2)) S).length = j by rw [List.length_map]; exact Hk.out)
      have SW : Hid (BtI wr w.heap.size 0 (.slice none 0 0) (.slice none 0 0)) := (hB.out.block w.heap.size hgl).trans S1.out
      have hgr : w1.heap.size < wr.heap.size := hR.out.lt
      clear iC RW hR
      go_wp2_with (go_at_call 37; refine i3.mono ?_; rintro e w2 ⟨v2, rfl, o2, b2⟩; obtain ⟨va, vc, hv2, _, _, _⟩ := Own.atI o2; subst hv2; have B2 := hid (BW.out.trans (b2.mono BW.out.size)); have S2 := hid (BtI.below SW.out b2); have R2 := hid (HRW.out.below b2 hgr); have O2 := hid o2; have kc0 := S2.out.c0; have kc1 := S2.out.c1; have kc2 := S2.out.c2; have kf0 : w2.frozen? ⟨w.heap.size, 0, none⟩ = false := frozen_of_row _ _ _ _ _ S2.out; have kf1 : w2.frozen? ⟨w.heap.size, 1, none⟩ = false := frozen_of_row _ _ _ _ _ S2.out; have kf2 : w2.frozen? ⟨w.heap.size, 2, none⟩ = false := frozen_of_row _ _ _ _ _ S2.out; clear b2 o2)
      have q1' : Below w.heap.size w2 _ := below_three (Below.refl w.heap.size w2) (Nat.le_refl w.heap.size) (.int .i64 (n : Int)) (.slice va (ix is).length vc) (.slice (some ⟨w1.heap.size, 0, none⟩) j j)
      have hk1 : Keep (fun k => k = w.heap.size) w2 (((w2.setCell ⟨w.heap.size, 0, none⟩ (.int .i64 (n : Int))).setCell ⟨w.heap.size, 1, none⟩ (.slice va (ix is).length vc)).setCell ⟨w.heap.size, 2, none⟩ (.slice (some ⟨w1.heap.size, 0, none⟩) j j)) :=
        ((Keep.ofSet (S := fun k => k = w.heap.size) w2 w.heap.size 0 _ rfl).trans (Keep.ofSet (S := fun k => k = w.heap.size) _ w.heap.size 1 _ rfl) fun _ _ e => e).trans (Keep.ofSet (S := fun k => k = w.heap.size) _ w.heap.size 2 _ rfl) fun _ _ e => e
      have hwr := BW.out.size
      refine bodyPost_ret (results_row_tmp rfl _ _ w.heap.size 31 _ (0, 0) _ rfl (BtI.three S2.out (n : Int) (.slice va (ix is).length vc) (.slice (some ⟨w1.heap.size, 0, none⟩) j j)) Tryd.underlying31 rfl sizeBt) rfl ⟨.slice va (ix is).length vc, w1.heap.size, by rw [hlm.out]; rfl, ?_, ?_, by omega, ?_, ?_⟩
      · refine (O2.out.mono (base' := w.heap.size) (by omega)).keep hk1 fun k hk e => ?_
        have := O2.out.ge k hk
        omega
      · unfold Row
        rw [hk1.block w1.heap.size R2.out.lt (by omega)]
        exact R2.out
      · intro e
        have := O2.out.ge w1.heap.size e
        omega
      · exact B2.out.trans q1'
end Bat
end Go.Proofs.YtmpaliocfikifaaDoor

/- THE PLAIN MATHEMATICS OF LAYER 12: hashes that are a tree's -/
namespace Go.Proofs.YtmpaliocfikifaaDoor
namespace Bat
open Tree
/-- the hash of a span of a tree -/
def rt (l : List T) (s : Nat × Nat) : T := root (seg l s.1 s.2)
theorem rt_two {l : List T} {b m : Nat} (h : 2 ≤ m) (hl : b + m ≤ l.length) : rt l (b, b + m) = nd (rt l (b, b + sp m)) (rt l (b + sp m, b + m)) := root_seg_two h hl
structure Fit (is : List Nat) (n : Nat) (l : List T) (val : Nat × Nat → T) : Prop where
  nn : ∀ b m, 2 ≤ m → tch is b (b + m) = true → val (b, b + m) = nd (val (b, b + sp m)) (val (b + sp m, b + m))
  tt : ∀ s ∈ othF n 0 n is, val s = rt l s
  ll : ∀ i ∈ is, val (i, i + 1) = rt l (i, i + 1)
  hn : n ≤ l.length
theorem Fit.down {is : List Nat} {n : Nat} {l : List T} {val : Nat × Nat → T} (h : Fit is n l val) : ∀ (f b m : Nat), 1 ≤ m → m ≤ f → b + m ≤ n → (∀ s ∈ othF f b m is, val s = rt l s) → val (b, b + m) = rt l (b, b + m)
  | 0, b, m, h1, h2, _, _ => by omega
  | f + 1, b, m, h1, h2, h3, ho => by
    cases ht : tch is b (b + m) with
    | false => exact ho _ (by rw [othF_no ht]; exact List.mem_singleton.2 rfl)
    | true =>
      by_cases hm : m < 2
      · obtain rfl : m = 1 := by omega
        obtain ⟨i, hi, h4, h5⟩ := tch_mem.1 ht
        obtain rfl : i = b := by omega
        exact h.ll i hi
      · have s1 := sp_lt (n := m) (by omega)
        have s2 := sp_pos (n := m) (by omega)
        rw [othF_two ht (by omega)] at ho
        rw [h.nn b m (by omega) ht, rt_two (by omega) (by have := h.hn; omega), h.down f b (sp m) (by omega) (by omega) (by omega) (fun s hs => ho s (List.mem_append_left _ hs))]
        have := h.down f (b + sp m) (m - sp m) (by omega) (by omega) (by omega) (fun s hs => ho s (List.mem_append_right _ hs))
        rw [show b + sp m + (m - sp m) = b + m by omega] at this
        rw [this]
theorem Fit.sub {is : List Nat} {n : Nat} {l : List T} {val : Nat × Nat → T} (h : Fit is n l val) : ∀ (f b m x y : Nat), 1 ≤ m → m ≤ f → b + m ≤ n → (∀ s ∈ othF f b m is, val s = rt l s) → insF f b m x y = true → tch is x y = true → val (x, y) = rt l (x, y)
  | 0, b, m, x, y, h1, h2, _, _, _, _ => by omega
  | f + 1, b, m, x, y, h1, h2, h3, ho, hi, ht => by
    have hin := insF_in (f + 1) b m x y hi h1
    rcases insF_cases hi with e | ⟨h6, _⟩ | ⟨h6, _⟩
    · obtain ⟨rfl, rfl⟩ := e
      exact h.down (f + 1) x m h1 h2 h3 ho
    · by_cases he : x = b ∧ y = b + m
      · obtain ⟨rfl, rfl⟩ := he
        exact h.down (f + 1) x m h1 h2 h3 ho
      · have hm : 2 ≤ m := by
          rcases Nat.lt_or_ge m 2 with c | c
          · exfalso; apply he; omega
          · exact c
        have s1 := sp_lt (n := m) hm
        have s2 := sp_pos (n := m) hm
        rw [othF_two (tch_sub ht (by omega) (by omega)) hm] at ho
        rw [insF, if_neg he, if_neg (by omega), if_pos h6] at hi
        exact h.sub f b (sp m) x y (by omega) (by omega) (by omega) (fun s hs => ho s (List.mem_append_left _ hs)) hi ht
    · by_cases he : x = b ∧ y = b + m
      · obtain ⟨rfl, rfl⟩ := he
        exact h.down (f + 1) x m h1 h2 h3 ho
      · have hm : 2 ≤ m := by
          rcases Nat.lt_or_ge m 2 with c | c
          · exfalso; apply he; omega
          · exact c
        have s1 := sp_lt (n := m) hm
        have s2 := sp_pos (n := m) hm
        rw [othF_two (tch_sub ht (by omega) (by omega)) hm] at ho
        rw [insF, if_neg he, if_neg (by omega), if_neg (by omega), if_pos h6] at hi
        exact h.sub f (b + sp m) (m - sp m) x y (by omega) (by omega) (by omega) (fun s hs => ho s (List.mem_append_right _ hs)) hi ht
theorem Fit.root {is : List Nat} {n : Nat} {l : List T} {val : Nat × Nat → T} (h : Fit is n l val) (h1 : 1 ≤ n) : val (0, n) = Tree.root (l.take n) := by
  have := h.down n 0 n h1 (Nat.le_refl _) (by omega) h.tt
  rw [Nat.zero_add] at this
  rw [this]
  show Tree.root (seg l 0 n) = _
  simp [seg]
theorem Fit.path {is : List Nat} {n : Nat} {l : List T} {val : Nat × Nat → T} (h : Fit is n l val) {i : Nat} (hi : i ∈ is) (hn : i < n) : (pthF n 0 n i).map val = path i (l.take n) := by
  obtain ⟨n', rfl⟩ : ∃ n', n = n' + 1 := ⟨n - 1, by omega⟩
  have hs := insF_self (f := n') (b := 0) (n := n' + 1)
  have key := pth_known hi (fun s => val s = rt l s) (by omega) (fun x y h1 h2 => h.sub (n' + 1) 0 (n' + 1) x y (by omega) (Nat.le_refl _) (by omega) h.tt h1 h2) (n' + 1) 0 (n' + 1) (by omega) (Nat.le_refl _) (by omega) (by omega) hs h.tt
  rw [List.map_congr_left key]
  have e := pthF_hash l (n' + 1) 0 (n' + 1) i (Nat.le_refl _) (Nat.zero_le _) (by omega) (by have := h.hn; omega)
  rw [Nat.zero_add, Nat.sub_zero] at e
  rw [show seg l 0 (n' + 1) = l.take (n' + 1) by simp [seg]] at e
  exact e
/-- told hashes of a tree, and its leaves -/
theorem Val.fit {is : List Nat} {n : Nat} {l H L : List T} {val : Nat × Nat → T} (V : Val is n H L val) (hn : n ≤ l.length) (hi : ∀ i ∈ is, i < n) (hH : H = (othF n 0 n is).map (rt l)) (hL : ∀ (k : Nat) (i : Nat), is[k]? = some i → L[k]? = l[i]?) : Fit is n l val := by
  refine ⟨V.n, fun s hs => ?_, fun i hm => ?_, hn⟩
  · have e := V.h.symm.trans hH
    obtain ⟨k, hk, rfl⟩ := List.mem_iff_getElem.1 hs
    have := congrArg (fun l => l[k]?) e
    simpa [hk] using this
  · obtain ⟨k, hk, e⟩ := List.mem_iff_getElem.1 hm
    have h1 := hL k i (by rw [List.getElem?_eq_getElem hk, e])
    have h2 := V.l
    have hil := hi i hm
    rw [h2, List.getElem?_map, List.getElem?_eq_getElem hk, e, Option.map_some, List.getElem?_eq_getElem (by omega)] at h1
    have h3 := Option.some.inj h1
    rw [h3]
    show _ = Tree.root (seg l i (i + 1))
    rw [show seg l i (i + 1) = [l[i]'(by omega)] by
      have hlt : i < l.length := by omega
      unfold seg
      rw [List.take_add_one, List.getElem?_eq_getElem hlt, List.drop_append_of_le_length (by rw [List.length_take]; omega), List.drop_of_length_le (by rw [List.length_take]; omega)]
      rfl]
    exact (root_one _).symm
end Bat
end Go.Proofs.YtmpaliocfikifaaDoor

namespace Go.Proofs.YtmpaliocfikifaaDoor
open Go.RowKit Go.Shelf
namespace Bat
theorem oth302 : Tree.othF 3 0 3 [0, 2] = [(1, 2)] := by decide
theorem pth30 : Tree.pthF 3 0 3 0 = [(1, 2), (2, 3)] := by decide
theorem pth32 : Tree.pthF 3 0 3 2 = [(0, 2)] := by decide
theorem bat302 : BatOk ((3 : Nat) : Int) (ix [0, 2]) := ⟨by decide, by decide, by decide, by decide, by decide, by decide, by decide, by decide, by decide⟩
theorem bat302' : batchL 3 [0, 2] = [(1, 2)] := by
  have hE := batchE_ok bat302
  have : batchL ((3 : Nat) : Int) (ix [0, 2]) = Tree.othF 3 0 3 [0, 2] := by unfold batchL; rw [if_pos hE]; rfl
  rw [oth302] at this
  exact this
theorem tol302 : tolE 3 [0, 2] = 0 := tolE_zero.2 (batchE_ok bat302)
theorem atI_two (w : World) (x y : Int) : AtI (w.alloc (.cells #[.int .i64 x, .int .i64 y] 3)) (some ⟨w.heap.size, 0, none⟩) [x, y] := fun j p hp => by
  have h := heap_alloc_new w (.cells #[.int .i64 x, .int .i64 y] 3)
  refine ⟨_, rfl, lt_of_heap h, ?_⟩
  rw [Addr.add_mid, Nat.zero_add, cell_of_row _ _ _ _ _ _ h]
  match j, hp with
  | 0, hp => simp at hp; simp [hp]
  | 1, hp => simp at hp; simp [hp]
  | j + 2, hp => simp at hp
theorem at_three (w : World) (x y z : List UInt8) : At (w.alloc (.cells #[.string ⟨x.toArray⟩, .string ⟨y.toArray⟩, .string ⟨z.toArray⟩] 9)) (some ⟨w.heap.size, 0, none⟩) [x, y, z] := fun j p hp => by
  have h := heap_alloc_new w (.cells #[.string ⟨x.toArray⟩, .string ⟨y.toArray⟩, .string ⟨z.toArray⟩] 9)
  refine ⟨_, rfl, lt_of_heap h, ?_⟩
  rw [Addr.add_mid, Nat.zero_add, cell_of_row _ _ _ _ _ _ h]
  match j, hp with
  | 0, hp => simp at hp; subst hp; rfl
  | 1, hp => simp at hp; subst hp; rfl
  | 2, hp => simp at hp; subst hp; rfl
  | j + 3, hp => simp at hp
theorem at_two (w : World) (x z : List UInt8) : At (w.alloc (.cells #[.string ⟨x.toArray⟩, .string ⟨z.toArray⟩] 9)) (some ⟨w.heap.size, 0, none⟩) [x, z] := fun j p hp => by
  have h := heap_alloc_new w (.cells #[.string ⟨x.toArray⟩, .string ⟨z.toArray⟩] 9)
  refine ⟨_, rfl, lt_of_heap h, ?_⟩
  rw [Addr.add_mid, Nat.zero_add, cell_of_row _ _ _ _ _ _ h]
  match j, hp with
  | 0, hp => simp at hp; subst hp; rfl
  | 1, hp => simp at hp; subst hp; rfl
  | j + 2, hp => simp at hp
theorem tolH302 (x y z : List UInt8) : tolH [x, y, z] 3 [0, 2] = [y] := by unfold tolH; rw [oth302]; rfl
theorem fit302 (x y z : List UInt8) (val : Nat × Nat → List UInt8) (V : Val [0, 2] 3 [y] [x, z] val) : val (0, 3) = Tree.root [x, y, z] := by
  have F : Fit [0, 2] 3 [x, y, z] val := V.fit (by simp) (by decide) (by rw [oth302]; rfl) (fun k i h => by
    match k, h with
    | 0, h => simp at h; subst h; rfl
    | 1, h => simp at h; subst h; rfl
    | k + 2, h => simp at h)
  exact F.root (by decide)
set_option maxRecDepth 100000 in
set_option maxHeartbeats 1600000 in
theorem known12_any (w : World) (Z : Tb w) : Calls Tryd.prog 5 #[] w fun e w' => e = .returned (.bool true) ∧ Below w.heap.size w w' := by
  have i1 := fun w' => lleaf_at 1 (lf 1) rfl w'
  have i2 := fun w' => lleaf_at 2 (lf 2) rfl w'
  have i3 := fun w' => lleaf_at 3 (lf 3) rfl w'
  have hx := lf_length 1
  have hy := lf_length 2
  have hz := lf_length 3
  generalize lf 1 = x at *
  generalize lf 2 = y at *
  generalize lf 3 = z at *
  have HZ := hid Z
  have hT := Z.lt
  have H32 : Hid (x.length = 32 ∧ y.length = 32 ∧ z.length = 32) := ⟨hx, hy, hz⟩
  simp only [show sv x = .string ⟨x.toArray⟩ from rfl] at i1
  simp only [show sv y = .string ⟨y.toArray⟩ from rfl] at i2
  simp only [show sv z = .string ⟨z.toArray⟩ from rfl] at i3
  clear Z hx hy hz
  go_enter Tryd.func5, Tryd.ntmps5
  go_wp2_with (first
    | (go_at_call 9; (first
      | ((with_reducible refine (i1 _).mono ?_); rintro r w1 ⟨rfl, b1⟩)
      | ((with_reducible refine (i2 _).mono ?_); rintro r w2 ⟨rfl, b2⟩)
      | ((with_reducible refine (i3 _).mono ?_); rintro r w3 ⟨rfl, b3⟩)))
    | (go_at_call 16; fail))
  have B3 : Hid (Below w.heap.size w w3) := by
    have h2 := b1.trans (b2.mono b1.size)
    exact h2.trans (b3.mono h2.size)
  have ba3 := (Below.refl w3.heap.size w3).alloc (Nat.le_refl _) (.cells #[.string ⟨x.toArray⟩, .string ⟨y.toArray⟩, .string ⟨z.toArray⟩] 9)
  have B3' := hid (B3.out.trans (ba3.mono B3.out.size))
  have j4 := planted12_any 0 [x, y, z] (fun q hq => by
    have := H32.out
    simp only [List.mem_cons, List.not_mem_nil, or_false] at hq
    rcases hq with rfl | rfl | rfl
    · exact this.1
    · exact this.2.1
    · exact this.2.2) (by simp) (some ⟨w3.heap.size, 0, none⟩) 3 _ (by omega) (by omega) (at_three w3 x y z) (HZ.out.below B3'.out hT)
  rw [show ([x, y, z] : List (List UInt8)).length = 3 from rfl] at j4
  with_reducible refine j4.mono ?_
  rintro r w4 ⟨q, h, F, rfl, t4, _, b4⟩
  have B4 := hid (B3'.out.trans (b4.mono B3'.out.size))
  have T4 := hid t4
  clear j4 ba3 B3' B3 b1 b2 b3 b4 t4
  have ba4 := (Below.refl w4.heap.size w4).alloc (Nat.le_refl _) (.cells #[.int .i64 0, .int .i64 2] 3)
  have B4' := hid (B4.out.trans (ba4.mono B4.out.size))
  have j5 := prove12_ok (T4.out.below ba4) (HZ.out.below B4'.out hT) 3 [0, 2] bat302 (by simp) (some ⟨w4.heap.size, 0, none⟩) 2 (atI_two w4 0 2)
  rw [tolH302, show ([0, 2] : List Nat).length = 2 from rfl, show ((3 : Nat) : Int) = 3 from rfl] at j5
  clear ba4
  go_wp2_with (go_at_call 17; fail)
  with_reducible refine j5.mono ?_
  rintro r w5 ⟨vi, gh, rfl, o5, r5, _, _, b5⟩
  obtain ⟨va, vc, hvi, hat5, _, _⟩ := Own.atI o5
  subst hvi
  have B5 := hid (B4'.out.trans (b5.mono B4'.out.size))
  have T5 := hid (T4.out.below (((Below.refl w4.heap.size w4).alloc (Nat.le_refl _) (.cells #[.int .i64 0, .int .i64 2] 3)).trans (b5.mono (by rw [size_alloc]; omega))))
  have R5 := hid r5
  have A5 := hid hat5
  clear j5 o5 r5 b5 hat5 B4' T4 B4
  rw [show (ix [0, 2]).length = 2 from rfl, show ([y] : List (List UInt8)).length = 1 from rfl, show ((3 : Nat) : Int) = 3 from rfl]
  -- the batch's variable
  have ba5 := (Below.refl w5.heap.size w5).alloc (Nat.le_refl _) (.cells #[.int .i64 3, .slice va 2 vc, .slice (some ⟨gh, 0, none⟩) 1 1] 31)
  have S6 := hid (BtI.new w5 3 (.slice va 2 vc) (.slice (some ⟨gh, 0, none⟩) 1 1))
  have B6 := hid (B5.out.trans (ba5.mono B5.out.size))
  have T6 := hid (T5.out.below ba5)
  have R6 := hid (R5.out.below ba5 R5.out.lt)
  have A6 := hid (A5.out.below ba5 (Nat.le_refl _))
  have z6 : (w5.alloc (.cells #[.int .i64 3, .slice va 2 vc, .slice (some ⟨gh, 0, none⟩) 1 1] 31)).heap.size = w5.heap.size + 1 := by simp
  clear ba5 B5 T5 R5 A5
  go_upto_region 5 with fail
  generalize w5.alloc (.cells #[.int .i64 3, .slice va 2 vc, .slice (some ⟨gh, 0, none⟩) 1 1] 31) = w6 at *
  have ba6 := (Below.refl w6.heap.size w6).alloc (Nat.le_refl _) (.cells #[.int .i64 0, .int .i64 2] 3)
  have j7 := count12_any 3 [0, 2] (some ⟨w6.heap.size, 0, none⟩) 2 _ (by simp) (atI_two w6 0 2)
  rw [bat302', tol302, show ([0, 2] : List Int).length = 2 from rfl, z6] at j7
  go_wp2_with (go_at_call 8; fail)
  with_reducible refine j7.mono ?_
  rintro r w7 ⟨rfl, b7⟩
  have b67 := ba6.trans (b7.mono ba6.size)
  have S7 := hid (S6.out.below b67)
  have B7 := hid (B6.out.trans (b67.mono B6.out.size))
  have T7 := hid (T6.out.below b67)
  have R7 := hid (R6.out.below b67 R6.out.lt)
  have A7 := hid (A6.out.below b67 (Nat.le_refl _))
  clear j7 b7 ba6 b67 S6 B6 T6 R6 A6
  rw [show ((([(1, 2)] : List (Nat × Nat)).length : Nat) : Int) = 1 from rfl]
  go_upto_region 6 with fail
  obtain ⟨val, V⟩ := val_is [0, 2] 3 [y] [x, z] (by omega) (by decide) (by rw [oth302]; rfl) rfl
  have hv03 := hid (fit302 x y z val V)
  have hy8 : hsB8 [y] = true := by simp [hsB8, H32.out.2.1]
  have hx8 : hsB8 [x, z] = true := by simp [hsB8, H32.out.1, H32.out.2.2]
  have jE := fun w' (hb : Below w7.heap.size w7 w') => expand12_ok 3 [0, 2] [y] [x, z] val V bat302 hy8 hx8 va (some ⟨gh, 0, none⟩) (some ⟨w'.heap.size, 0, none⟩) vc 1 2 (w'.alloc (.cells #[.string ⟨x.toArray⟩, .string ⟨z.toArray⟩] 9)) ((HZ.out.below (B7.out.trans ((hb.alloc (by have := hb.size; omega) _).mono B7.out.size)) hT).t) (A7.out.below (hb.alloc hb.size _) (Nat.le_refl _)) (R7.out.at.below (hb.alloc hb.size _) (Nat.le_refl _)) (at_two w' x z)
  simp only [show ([0, 2] : List Nat).length = 2 from rfl, show ((3 : Nat) : Int) = 3 from rfl, show ([y] : List (List UInt8)).length = 1 from rfl, show ([x, z] : List (List UInt8)).length = 2 from rfl] at jE
  have mkS : ∀ w', Below w7.heap.size w7 w' → w'.cell? ⟨w5.heap.size, 0, none⟩ = some (.int .i64 3) ∧ w'.cell? ⟨w5.heap.size, 1, none⟩ = some (.slice va 2 vc) ∧ w'.cell? ⟨w5.heap.size, 2, none⟩ = some (.slice (some ⟨gh, 0, none⟩) 1 1) := fun w' hb => ⟨(S7.out.below hb).c0, (S7.out.below hb).c1, (S7.out.below hb).c2⟩
  have e7 := mkS w7.drew (Below.refl _ w7).drew
  go_region_held3 (fun w' => w'.cell? ⟨w5.heap.size, 0, none⟩ = some (.int .i64 3) ∧ w'.cell? ⟨w5.heap.size, 1, none⟩ = some (.slice va 2 vc) ∧ w'.cell? ⟨w5.heap.size, 2, none⟩ = some (.slice (some ⟨gh, 0, none⟩) 1 1)) (first | exact e10 | exact e9a | exact e9 | exact e8 | exact e7)
    (first
      | (go_at_call 9; (first
        | ((with_reducible refine (i1 _).mono ?_); rintro r w8 ⟨rfl, b8'⟩; have b8 := drewBelow8 b8'; have e8 := mkS w8 b8)
        | ((with_reducible refine (i3 _).mono ?_); rintro r w9 ⟨rfl, b9'⟩; have b9 := b8.trans (b9'.mono b8.size); have e9 := mkS w9 b9; have b9a := b9.alloc b9.size (.cells #[.string ⟨x.toArray⟩, .string ⟨z.toArray⟩] 9); have e9a := mkS _ b9a; have j10 := jE w9 b9)))
      | (go_at_call 11; (with_reducible refine j10.mono ?_); rintro r w10 ⟨G, gs, rfl, RV, gl, LS, _, b10'⟩; have b10 := b9a.trans (b10'.mono b9a.size); have e10 := mkS w10 b10))
  rw [show (paths [0, 2] 3 val).length = 2 from rfl] at gl ⊢
  obtain ⟨g0, g1, rfl⟩ : ∃ g0 g1, gs = [g0, g1] := by
    match gs, gl with
    | [a, b], _ => exact ⟨a, b, rfl⟩
  have cG : w10.cell? ⟨G, 1, none⟩ = some (.slice (some ⟨g1, 0, none⟩) 1 1) := RV.cell (by
    show some (lst g1 ((Tree.pthF 3 0 3 2).map val)) = _
    rw [pth32]; rfl)
  have hGl := RV.lt
  have B10 := hid (B7.out.trans (b10.mono B7.out.size))
  have S10 := hid (S7.out.below b10)
  have T10 := hid (T7.out.below b10)
  have R10 := hid (R7.out.below b10 R7.out.lt)
  have A10 := hid (A7.out.below b10 (Nat.le_refl _))
  have CG := hid cG
  clear mkS e7 e8 e9 e9a e10 b8 b8' b9 b9' b9a b10 b10' jE j10 RV LS B7 S7 T7 R7 A7 cG
  have jR := tRoot_any T10.out 3 (HZ.out.below B10.out hT) (show Hid (tPartO [x, y, z] 0 3 = (Tree.root [x, y, z], 0)) from tPartO_all)
  rw [show sv (Tree.root [x, y, z]) = Value.string ⟨(Tree.root [x, y, z]).toArray⟩ from rfl] at jR
  have mkC := fun w' (hb : Below w10.heap.size w10 w') => check12_any 3 [y] [x, z] 2 va (some ⟨gh, 0, none⟩) (some ⟨w'.heap.size, 0, none⟩) vc 1 2 (val (0, 3)) (Tree.root [x, y, z]) 0 0 (w'.alloc (.cells #[.string ⟨x.toArray⟩, .string ⟨z.toArray⟩] 9)) (fun w'' hb' => by
    have hbb := (hb.alloc hb.size (.cells #[.string ⟨x.toArray⟩, .string ⟨z.toArray⟩] 9)).trans (hb'.mono (by have := hb.size; rw [size_alloc]; omega))
    have := root12_ok 3 [0, 2] [y] [x, z] val V bat302 hy8 hx8 va (some ⟨gh, 0, none⟩) (some ⟨w'.heap.size, 0, none⟩) vc 1 2 w'' ((HZ.out.below (B10.out.trans (hbb.mono B10.out.size)) hT).t) (A10.out.below hbb (Nat.le_refl _)) (R10.out.at.below hbb (Nat.le_refl _)) ((at_two w' x z).below hb' (Nat.le_refl _))
    exact this.mono fun r w3 h => ⟨h.1, h.2.2⟩) (by rw [if_pos rfl, if_pos hv03.out])
  simp only [show ([y] : List (List UInt8)).length = 1 from rfl, show ([x, z] : List (List UInt8)).length = 2 from rfl, show sv (Tree.root [x, y, z]) = Value.string ⟨(Tree.root [x, y, z]).toArray⟩ from rfl] at mkC
  generalize Tree.root [x, y, z] = rr at *
  clear V hv03 hy8 hx8
  go_wp2_with (go_at_call 23; fail)
  with_reducible refine jR.mono ?_
  rintro r w11 ⟨rfl, b11⟩
  have hyy : ((ByteArray.mk y.toArray).toList == (ByteArray.mk y.toArray).toList) = true := by simp
  have mkS : ∀ w', Below w11.heap.size w11 w' → w'.cell? ⟨w5.heap.size, 0, none⟩ = some (.int .i64 3) ∧ w'.cell? ⟨w5.heap.size, 1, none⟩ = some (.slice va 2 vc) ∧ w'.cell? ⟨w5.heap.size, 2, none⟩ = some (.slice (some ⟨gh, 0, none⟩) 1 1) ∧ w'.cell? ⟨gh, 0, none⟩ = some (.string ⟨y.toArray⟩) ∧ w'.cell? ⟨G, 1, none⟩ = some (.slice (some ⟨g1, 0, none⟩) 1 1) := fun w' hb => by
    have hbb := b11.trans (hb.mono b11.size)
    have S' := S10.out.below hbb
    have R' := R10.out.below hbb R10.out.lt
    exact ⟨S'.c0, S'.c1, S'.c2, R'.cell (j := 0) rfl, (hbb.cell (p := ⟨G, 1, none⟩) hGl).trans CG.out⟩
  have e11 := mkS w11.drew (Below.refl _ w11).drew
  go_upto_region 8 with fail
  go_region_held3 (fun w' => w'.cell? ⟨w5.heap.size, 0, none⟩ = some (.int .i64 3) ∧ w'.cell? ⟨w5.heap.size, 1, none⟩ = some (.slice va 2 vc) ∧ w'.cell? ⟨w5.heap.size, 2, none⟩ = some (.slice (some ⟨gh, 0, none⟩) 1 1) ∧ w'.cell? ⟨gh, 0, none⟩ = some (.string ⟨y.toArray⟩) ∧ w'.cell? ⟨G, 1, none⟩ = some (.slice (some ⟨g1, 0, none⟩) 1 1)) (first | exact e15 | exact e14a | exact e14 | exact e13 | exact e12 | exact e11)
    (first
      | (go_at_call 9; (first
        | ((with_reducible refine (i2 _).mono ?_); rintro r w12 ⟨rfl, b12'⟩; have b12 := drewBelow8 b12'; have e12 := mkS w12 b12)
        | ((with_reducible refine (i1 _).mono ?_); rintro r w13 ⟨rfl, b13'⟩; have b13 := b12.trans (b13'.mono b12.size); have e13 := mkS w13 b13)
        | ((with_reducible refine (i3 _).mono ?_); rintro r w14 ⟨rfl, b14'⟩; have b14 := b13.trans (b14'.mono b13.size); have e14 := mkS w14 b14; have b14a := b14.alloc b14.size (.cells #[.string ⟨x.toArray⟩, .string ⟨z.toArray⟩] 9); have e14a := mkS _ b14a; have j15 := mkC w14 (b11.trans (b14.mono b11.size)))))
      | (go_at_call 14; (with_reducible refine j15.mono ?_); rintro r w15 ⟨rfl, b15'⟩; have b15 := b14a.trans (b15'.mono b14a.size); have e15 := mkS w15 b15))
  all_goals
    have BE := hid (B10.out.trans ((b11.trans (b15.mono b11.size)).mono B10.out.size))
    clear mkS mkC e11 e12 e13 e14 e14a e15 j15 b15 b15'
    go_wp2
    go_ret
    exact ⟨rfl, BE.out⟩
end Bat
end Go.Proofs.YtmpaliocfikifaaDoor

/- THE PLAIN MATHEMATICS OF LAYER 12: counts, and going up -/
namespace Go.Proofs.YtmpaliocfikifaaDoor
namespace Bat
open Tree
theorem D_dg {n : Nat} (h1 : 1 ≤ n) : (D n 0).length = dg (n - 1) := by
  by_cases h : n = 1
  · subst h; rw [D_one 0 (by omega)]; simp [dg]
  · have hne : n - 1 ≠ 0 := by omega
    have e1 := Nat.log2_self_le hne
    have e2 := Nat.lt_log2_self (n := n - 1)
    rw [D_zero (n - 1).log2 n (by omega) (by omega)]
    unfold dg
    rw [if_neg hne]
theorem wit_all {is : List Nat} {n : Nat} (h : ∀ i ∈ is, i < n) : wit is 0 n = is := by
  unfold wit
  rw [List.filter_eq_self]
  intro i hi
  simp [h i hi]
theorem told_few {is : List Nat} {n : Nat} (h1 : 1 ≤ n) (hp : is.Pairwise (· < ·)) (hi : ∀ i ∈ is, i < n) (h0 : is ≠ []) : (othF n 0 n is).length + is.length ≤ n ∧ (othF n 0 n is).length ≤ is.length * dg (n - 1) := by
  have hw := wit_all hi
  have c1 := oth_count is (hp.imp fun h => by omega) n 0 n (Nat.le_refl _) h1
  obtain ⟨i, hm⟩ := List.exists_mem_of_ne_nil _ h0
  have c2 := oth_most is n 0 n (Nat.le_refl _) h1 (tch_mem.2 ⟨i, hm, by omega, by have := hi i hm; omega⟩)
  rw [Nat.zero_add, hw] at c1 c2
  rw [D_dg h1] at c2
  exact ⟨c1, c2⟩
theorem many_told {is : List Nat} {n : Nat} (l : List T) (h1 : 1 ≤ n) (hn : n ≤ l.length) (hi : ∀ i ∈ is, i < n) : (othF n 0 n is).map (rt l) = many is 0 (l.take n) := by
  have e := othF_hash l is n 0 n h1 (Nat.le_refl _) (by omega)
  rw [Nat.zero_add, wit_all hi] at e
  have : seg l 0 n = l.take n := by simp [seg]
  rw [this] at e
  exact e
/-- a path of known hashes leads up -/
theorem up_val {is : List Nat} {val : Nat × Nat → T} (hv : ∀ b m, 2 ≤ m → tch is b (b + m) = true → val (b, b + m) = nd (val (b, b + sp m)) (val (b + sp m, b + m))) {i : Nat} (hi : i ∈ is) :
    ∀ (f b m : Nat), 1 ≤ m → m ≤ f → b ≤ i → i < b + m → Tree.upd (val (i, i + 1)) (D m (i - b)) ((pthF f b m i).map val) = val (b, b + m)
  | 0, b, m, h1, h2, _, _ => by omega
  | f + 1, b, m, h1, h2, hb, hbm => by
    by_cases hm : m < 2
    · obtain rfl : m = 1 := by omega
      obtain rfl : i = b := by omega
      rw [pthF_small (by omega), D_one _ (by omega)]
      rfl
    · have s1 := sp_lt (n := m) (by omega)
      have s2 := sp_pos (n := m) (by omega)
      have htc : tch is b (b + m) = true := tch_mem.2 ⟨i, hi, hb, hbm⟩
      rw [hv b m (by omega) htc]
      by_cases hl : i < b + sp m
      · rw [pthF_left (by omega) hl, D_left (by omega) (by omega), List.map_append, List.map_singleton, upd_snoc _ _ _ _ _ (by rw [List.length_map, pthF_len f b (sp m) i (by omega) hb]), up_val hv hi f b (sp m) (by omega) (by omega) hb hl]
        rfl
      · have ih := up_val hv hi f (b + sp m) (m - sp m) (by omega) (by omega) (by omega) (by omega)
        rw [show b + sp m + (m - sp m) = b + m by omega, show i - (b + sp m) = i - b - sp m by omega] at ih
        rw [pthF_right (by omega) hl, D_right (by omega) (by omega), List.map_append, List.map_singleton, upd_snoc _ _ _ _ _ (by rw [List.length_map, pthF_len f (b + sp m) (m - sp m) i (by omega) (by omega), show i - (b + sp m) = i - b - sp m by omega]), ih]
        rfl
/-- what is true of told ones and leaves, and goes up -/
structure Cls (is : List Nat) (n : Nat) (p : Nat × Nat → Prop) : Prop where
  nn : ∀ b m, 2 ≤ m → tch is b (b + m) = true → p (b, b + sp m) → p (b + sp m, b + m) → p (b, b + m)
  tt : ∀ s ∈ othF n 0 n is, p s
  ll : ∀ i ∈ is, p (i, i + 1)
theorem Cls.down {is : List Nat} {n : Nat} {p : Nat × Nat → Prop} (h : Cls is n p) : ∀ (f b m : Nat), 1 ≤ m → m ≤ f → (∀ s ∈ othF f b m is, p s) → p (b, b + m)
  | 0, b, m, h1, h2, _ => by omega
  | f + 1, b, m, h1, h2, ho => by
    cases ht : tch is b (b + m) with
    | false => exact ho _ (by rw [othF_no ht]; exact List.mem_singleton.2 rfl)
    | true =>
      by_cases hm : m < 2
      · obtain rfl : m = 1 := by omega
        obtain ⟨i, hi, h4, h5⟩ := tch_mem.1 ht
        obtain rfl : i = b := by omega
        exact h.ll i hi
      · have s1 := sp_lt (n := m) (by omega)
        have s2 := sp_pos (n := m) (by omega)
        rw [othF_two ht (by omega)] at ho
        have q2 := h.down f (b + sp m) (m - sp m) (by omega) (by omega) (fun s hs => ho s (List.mem_append_right _ hs))
        rw [show b + sp m + (m - sp m) = b + m by omega] at q2
        exact h.nn b m (by omega) ht (h.down f b (sp m) (by omega) (by omega) (fun s hs => ho s (List.mem_append_left _ hs))) q2
theorem Cls.path {is : List Nat} {n : Nat} {p : Nat × Nat → Prop} (h : Cls is n p) {i : Nat} (hi : i ∈ is) : ∀ (f b m : Nat), 1 ≤ m → m ≤ f → b ≤ i → i < b + m → (∀ s ∈ othF f b m is, p s) → ∀ s ∈ pthF f b m i, p s
  | 0, b, m, h1, h2, _, _, _ => by omega
  | f + 1, b, m, h1, h2, hb, hbm, ho => by
    by_cases hm : m < 2
    · rw [pthF_small (by omega)]; intro s hs; cases hs
    · have s1 := sp_lt (n := m) (by omega)
      have s2 := sp_pos (n := m) (by omega)
      rw [othF_two (tch_mem.2 ⟨i, hi, hb, hbm⟩) (by omega)] at ho
      intro s hs
      by_cases hl : i < b + sp m
      · rw [pthF_left (by omega) hl] at hs
        rcases List.mem_append.1 hs with hs | hs
        · exact h.path hi f b (sp m) (by omega) (by omega) hb hl (fun s hs => ho s (List.mem_append_left _ hs)) s hs
        · obtain rfl := List.mem_singleton.1 hs
          have := h.down f (b + sp m) (m - sp m) (by omega) (by omega) (fun s hs => ho s (List.mem_append_right _ hs))
          rwa [show b + sp m + (m - sp m) = b + m by omega] at this
      · rw [pthF_right (by omega) hl] at hs
        rcases List.mem_append.1 hs with hs | hs
        · exact h.path hi f (b + sp m) (m - sp m) (by omega) (by omega) (by omega) (by omega) (fun s hs => ho s (List.mem_append_right _ hs)) s hs
        · obtain rfl := List.mem_singleton.1 hs
          exact h.down f b (sp m) (by omega) (by omega) (fun s hs => ho s (List.mem_append_left _ hs))
end Bat
end Go.Proofs.YtmpaliocfikifaaDoor
