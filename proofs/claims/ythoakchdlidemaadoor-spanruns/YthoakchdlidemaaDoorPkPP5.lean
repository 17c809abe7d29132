import Derived.Test.YthoakchdlidemaaDoorPkPP3
import Derived.Test.YthoakchdlidemaaDoorPkBM1
import Derived.Test.YthoakchdlidemaaDoorPkO27
import Derived.Lib.UnsafeStr
import Derived.Lib.BufferWrite
import Derived.Laws.MakeOwn
import Derived.Deep.RegionLaw
/- Layer 14, the program: Prove -/
namespace Go.Proofs.YthoakchdlidemaaDoor
open Go.RowKit Go.Shelf
namespace Spn
abbrev rn0 : Value := .agg #[.int .i64 0, .int .i64 0, .int .i64 0, .slice none 0 0]
theorem sizeRn : (Tryd.prog.info? 35).map (·.size) = some 4 := by kernel_rfl
theorem RnI.four {w : World} {g : Nat} {n x y : Int} {v : Value} (h : RnI w g n x y v) (n' x' y' : Int) (v' : Value) : RnI ((((w.setCell ⟨g, 0, none⟩ (.int .i64 n')).setCell ⟨g, 1, none⟩ (.int .i64 x')).setCell ⟨g, 2, none⟩ (.int .i64 y')).setCell ⟨g, 3, none⟩ v') g n' x' y' v' :=
  heap_setCell_same _ g 3 _ _ _ (heap_setCell_same _ g 2 _ _ _ (heap_setCell_same _ g 1 _ _ _ (heap_setCell_same w g 0 _ _ _ h)))
theorem below_four {w w' : World} {B g : Nat} (h : Below B w w') (hg : B ≤ g) (a b c d : Value) : Below B w ((((w'.setCell ⟨g, 0, none⟩ a).setCell ⟨g, 1, none⟩ b).setCell ⟨g, 2, none⟩ c).setCell ⟨g, 3, none⟩ d) :=
  Below.setCell (p := ⟨g, 3, none⟩) (Below.setCell (p := ⟨g, 2, none⟩) (Below.setCell (p := ⟨g, 1, none⟩) (Below.setCell (p := ⟨g, 0, none⟩) h hg _) hg _) hg _) hg _
theorem keep_four (w : World) (g : Nat) (a b c d : Value) : Keep (fun k => k = g) w ((((w.setCell ⟨g, 0, none⟩ a).setCell ⟨g, 1, none⟩ b).setCell ⟨g, 2, none⟩ c).setCell ⟨g, 3, none⟩ d) :=
  (((Keep.ofSet (S := fun k => k = g) w g 0 a rfl).trans (Keep.ofSet (S := fun k => k = g) _ g 1 b rfl) (fun _ _ e => e)).trans (Keep.ofSet (S := fun k => k = g) _ g 2 c rfl) (fun _ _ e => e)).trans (Keep.ofSet (S := fun k => k = g) _ g 3 d rfl) (fun _ _ e => e)
/-- may it be proved? -/
def prvB (k : Nat) (n x y : Int) : Bool := decide (n ≤ (k : Int)) && runB n x y
set_option maxRecDepth 100000 in
set_option maxHeartbeats 4000000 in
theorem prove14_bad {w : World} {q h : Nat} {L : List (List UInt8)} {F : Nat → Prop} (t : TrL w q h L F) (n x y : Int) (he : prvB L.length n x y = false) :
    Calls Tryd.prog 15 #[.pointer (some ⟨q, 0, none⟩), .int .i64 n, sg x y] w fun r w' => r = .returned (.tuple #[rn0, .int .i64 140]) ∧ Below w.heap.size w w' := by
  have b0 := (Below.refl w.heap.size w).alloc (Nat.le_refl _) (.cells #[.int .i64 x, .int .i64 y] 29)
  have S0 := SpI.new w x y
  have b1' := (Below.refl _ (w.alloc (.cells #[.int .i64 x, .int .i64 y] 29))).alloc (Nat.le_refl _) (.cells #[.int .i64 0, .int .i64 0, .int .i64 0, .slice none 0 0] 35)
  have b1 := b0.trans (b1'.mono b0.size)
  have R1 := RnI.new (w.alloc (.cells #[.int .i64 x, .int .i64 y] 29)) 0 0 0 (.slice none 0 0)
  rw [size_alloc] at R1
  have S1 := S0.below b1'
  have i1 := tSizeL (t.below b1)
  have hc0 := R1.c0
  have hc1 := R1.c1
  have hc2 := R1.c2
  have hc3 := R1.c3
  have hf0 := frozen_of_row _ _ 0 _ _ R1
  have hf1 := frozen_of_row _ _ 1 _ _ R1
  have hf2 := frozen_of_row _ _ 2 _ _ R1
  have hf3 := frozen_of_row _ _ 3 _ _ R1
  have sc0 := S1.c0
  have sc1 := S1.c1
  have HR := hid R1
  have HB := hid b1
  generalize L.length = k at *
  by_cases h1 : n ≤ (k : Int)
  · have g2 : ¬ (k : Int) < n := by omega
    have hr : runB n x y = false := by unfold prvB at he; rw [decide_eq_true h1, Bool.true_and] at he; exact he
    have i2 := fun w' => isRun_is n x y false hr w'
    clear t b0 S0 b1' b1 R1 S1 he hr h1
    go_enter Tryd.func15, Tryd.ntmps15
    go_wp2_with (first
      | (go_at_call 44; refine i1.mono ?_; rintro r w1 ⟨rfl, h0⟩; have h0 := h0.symm; subst h0)
      | (go_at_call 25; refine (i2 _).mono ?_; rintro r w1 ⟨rfl, b1⟩; have B1 := hid (HB.out.trans (b1.mono HB.out.size)); have S1 := hid (HR.out.below b1); have kc0 := S1.out.c0; have kc1 := S1.out.c1; have kc2 := S1.out.c2; have kc3 := S1.out.c3; have kf0 := frozen_of_row _ _ 0 _ _ S1.out; have kf1 := frozen_of_row _ _ 1 _ _ S1.out; have kf2 := frozen_of_row _ _ 2 _ _ S1.out; have kf3 := frozen_of_row _ _ 3 _ _ S1.out; clear b1))
    refine bodyPost_ret (results_row_tmp rfl _ _ (w.heap.size + 1) 35 _ (0, 0) _ rfl (RnI.four S1.out 0 0 0 (.slice none 0 0)) Tryd.underlying35 rfl sizeRn) rfl ⟨rfl, ?_⟩
    exact below_four B1.out (Nat.le_succ _) _ _ _ _
  · have g2 : (k : Int) < n := by omega
    clear t b0 S0 b1' b1 R1 S1 he h1
    go_enter Tryd.func15, Tryd.ntmps15
    go_wp2_with (go_at_call 44; refine i1.mono ?_; rintro r w1 ⟨rfl, h0⟩; have h0 := h0.symm; subst h0)
    refine bodyPost_ret (results_row_tmp rfl _ _ (w.heap.size + 1) 35 _ (0, 0) _ rfl HR.out Tryd.underlying35 rfl sizeRn) rfl ⟨rfl, HB.out⟩
/-- the hashes that are told -/
def tolS (L : List (List UInt8)) (n s e : Nat) : List (List UInt8) := (Tree.runF n 0 n s e).map fun q => Tree.root (Til.sg L q.1 q.2)
/-- what Prove answers -/
def PrS (w : World) (n s e : Nat) (H : List (List UInt8)) (r : Ending) (w' : World) : Prop :=
  ∃ gh, r = .returned (.tuple #[rn (n : Int) (s : Int) (e : Int) (.slice (some ⟨gh, 0, none⟩) H.length H.length), .int .i64 0]) ∧ Row w' gh H ∧ w.heap.size ≤ gh ∧ Below w.heap.size w w'
set_option maxRecDepth 100000 in
set_option maxHeartbeats 4000000 in
theorem prove14_ok {w : World} {q h : Nat} {L : List (List UInt8)} {F : Nat → Prop} (t : TrL w q h L F) (Z : Tb w) (n s e : Nat) (hse : s < e) (hen : e ≤ n) (hn : n ≤ L.length) :
    Calls Tryd.prog 15 #[.pointer (some ⟨q, 0, none⟩), .int .i64 (n : Int), sg (s : Int) (e : Int)] w (PrS w n s e (tolS L n s e)) := by
  have hn20 := t.n20
  obtain ⟨Tn, Ti⟩ := Bat.apt_nodup (Tree.runF_apart s e n 0 n (by omega) (Nat.le_refl _) hse)
  have hTle := told_len (n := n) (s := s) (e := e) (by omega) (by omega)
  have b0 := (Below.refl w.heap.size w).alloc (Nat.le_refl _) (.cells #[.int .i64 (s : Int), .int .i64 (e : Int)] 29)
  have S0 := SpI.new w (s : Int) (e : Int)
  have b1' := (Below.refl _ (w.alloc (.cells #[.int .i64 (s : Int), .int .i64 (e : Int)] 29))).alloc (Nat.le_refl _) (.cells #[.int .i64 0, .int .i64 0, .int .i64 0, .slice none 0 0] 35)
  have b1 := b0.trans (b1'.mono b0.size)
  have R1 := RnI.new (w.alloc (.cells #[.int .i64 (s : Int), .int .i64 (e : Int)] 29)) 0 0 0 (.slice none 0 0)
  rw [size_alloc] at R1
  have S1 := S0.below b1'
  have i1 := tSizeL (t.below b1)
  have i2 := fun w' => isRun_is (n : Int) (s : Int) (e : Int) true (by simp [runB]; omega) w'
  have i3 := fun w' => told14_any n s e hse hen (by omega) w'
  have sc0 := S1.c0
  have sc1 := S1.c1
  unfold tolS
  have hTi : ∀ q ∈ Tree.runF n 0 n s e, q.1 ≤ q.2 ∧ q.2 ≤ L.length := fun q hq => by have := Ti q hq; omega
  generalize Tree.runF n 0 n s e = S at *
  have HT := hid t
  have HZ := hid Z
  have hZl := Z.lt
  have HTI := hid hTi
  have HR := hid R1
  have HS := hid S1
  have HB := hid b1
  obtain ⟨k, hk⟩ : ∃ k, S.length = k := ⟨_, rfl⟩
  have Hk := hid hk
  rw [hk] at hTle
  have mk := fun w' => make_texts w' k (by omega)
  have g2 : ¬ (L.length : Int) < (n : Int) := by omega
  clear t Z hTi hk Tn Ti b0 S0 b1' b1 R1 S1
  go_enter Tryd.func15, Tryd.ntmps15
  go_wp2_with (first
    | (go_at_call 44; refine i1.mono ?_; rintro r w1 ⟨rfl, h0⟩; have h0 := h0.symm; subst h0)
    | (go_at_call 25; fail))
  clear sc0 sc1 i1
  generalize (w.alloc (.cells #[.int .i64 (s : Int), .int .i64 (e : Int)] 29)).alloc (.cells #[.int .i64 0, .int .i64 0, .int .i64 0, .slice none 0 0] 35) = w0 at *
  refine (i2 _).mono ?_
  rintro r w0a ⟨rfl, b0⟩
  have R2 := hid (HR.out.below b0)
  have S2 := hid (HS.out.below b0)
  have B2 := hid (HB.out.trans (b0.mono HB.out.size))
  have sc0 := S2.out.c0
  have sc1 := S2.out.c1
  clear i2 b0 HR HS HB
  go_wp2_with (go_at_call 26; fail)
  refine (i3 _).mono ?_
  rintro r w1 ⟨v1, rfl, o1, f1, b1⟩
  obtain ⟨a1, c1, rfl, q1, q2⟩ := OwnM.shape o1
  rw [Hk.out]
  have R3 := hid (R2.out.below b1)
  have S3 := hid (S2.out.below b1)
  have B3 := hid (B2.out.trans (b1.mono B2.out.size))
  have O1 := hid o1
  have mk1 := mk w1
  clear sc0 sc1 i3 b1 o1 f1 R2 S2 B2
  have R0 : Hid (Row (w1.alloc (.cells (svs (List.replicate k [])).toArray 9)) w1.heap.size (vpre (fun s : Nat × Nat => Tree.root (Til.sg L s.1 s.2)) S 0)) := by
    have := heap_alloc_new w1 (.cells (svs (List.replicate k [])).toArray 9)
    unfold Hid Row
    rw [vpre_zero, Hk.out]
    exact this
  have BA := hid ((Below.refl w1.heap.size w1).alloc (Nat.le_refl _) (.cells (svs (List.replicate k [])).toArray 9))
  have hgl := lt_of_heap R3.out
  have hgs := lt_of_heap S3.out
  have z1 := B3.out.size
  clear mk
  go_wp2
  clear mk1
  go_loopw [10, 11, 31] (fun _ _ i w' => ∃ j : Nat, j ≤ k ∧ i = .int .i64 (j : Int) ∧ Hid (Row w' w1.heap.size (vpre (fun s : Nat × Nat => Tree.root (Til.sg L s.1 s.2)) S j)) ∧ Hid (Below w1.heap.size w1 w')) (fun _ _ i _ => k - (intOf i).toNat)
  case atStart => exact ⟨0, by omega, rfl, R0, BA⟩
  case round =>
    clear R0 BA
    obtain ⟨j, hj, rfl, hR, hB⟩ := hrel
    have BW := hid (B3.out.trans (hB.out.mono z1))
    by_cases hjk : j < k
    · have b0 : (j : Int) < (k : Int) := by omega
      have j0 : (0 : Int) ≤ (j : Int) := by omega
      have hjS : j < S.length := by rw [Hk.out]; exact hjk
      obtain ⟨g, rfl, hg, c0, c1'⟩ := ownP_at (O1.out.below hB.out) (List.getElem?_eq_getElem hjS)
      have hs := HTI.out S[j] (List.getElem_mem hjS)
      have hset := hid (vpre_set (fun s : Nat × Nat => Tree.root (Til.sg L s.1 s.2)) S hjS)
      have hlen := vpre_len (fun s : Nat × Nat => Tree.root (Til.sg L s.1 s.2)) S (Nat.le_of_lt hjS)
      have HX : Hid (tPartO L (S[j].1 : Int) (S[j].2 : Int) = (Tree.root (Til.sg L S[j].1 S[j].2), 0)) := tPartO_nat hs.1 hs.2
      have hbs := (Below.refl wr.heap.size wr).alloc (Nat.le_refl _) (.cells #[.int .i64 (S[j].1 : Int), .int .i64 (S[j].2 : Int)] 29)
      have s0 := SpI.new wr (S[j].1 : Int) (S[j].2 : Int)
      have sc0 := s0.c0
      have sc1 := s0.c1
      have b1 := BW.out.trans (hbs.mono BW.out.size)
      have R1 := hR.out.below hbs hR.out.lt
      have i1 := tPart_any (HT.out.below b1) (S[j].1 : Int) (S[j].2 : Int) (HZ.out.below b1 hZl) HX
      have b2 := hid (hB.out.trans (hbs.mono hB.out.size))
      generalize (S[j].1 : Int) = x0 at *
      generalize (S[j].2 : Int) = x1 at *
      generalize Tree.root (Til.sg L S[j].1 S[j].2) = r at *
      rw [show sv r = Value.string ⟨r.toArray⟩ from rfl] at i1
      have HR1 := hid R1
      clear hs HX hbs s0 hR hB b1 R1
      go_wp2_with (go_at_call 45; refine i1.mono ?_; rintro e w2 ⟨rfl, b3⟩; have B3 := hid b3; have R2 := hid (HR1.out.below b3 HR1.out.lt); clear b3; have f2 := R2.out.free (j := j) (by rw [hlen, Hk.out]; exact hjk); have d2 := R2.out.cell (List.getElem?_eq_getElem (show j < (vpre (fun s : Nat × Nat => Tree.root (Til.sg L s.1 s.2)) S j).length by rw [hlen, Hk.out]; exact hjk)))
      refine ⟨⟨j + 1, by omega, by go_num, ?_, ?_⟩, by simp [intOf]; omega⟩
      · have := R2.out.set j r
        rw [hset.out] at this
        exact this
      · exact Below.setCell (p := ⟨w1.heap.size, j, none⟩) (b2.out.trans (B3.out.mono b2.out.size)) (Nat.le_refl _) _
    · obtain rfl : j = k := by omega
      have b0 : ¬ (j : Int) < (j : Int) := by omega
      have RW := hR.out
      rw [← Hk.out, vpre_all] at RW
      have HRW := hid RW
      have hlm := hid (show (List.map (fun s : Nat × Nat => Tree.root (Til.sg L s.1 s.2)) S).length = j by rw [List.length_map]; exact Hk.out)
      have SW : Hid (RnI wr (w.heap.size + 1) 0 0 0 (.slice none 0 0)) := (hB.out.block (w.heap.size + 1) hgl).trans R3.out
      have PW : SpI wr w.heap.size (s : Int) (e : Int) := (hB.out.block w.heap.size hgs).trans S3.out
      have sc0 := PW.c0
      have sc1 := PW.c1
      have hgr : w1.heap.size < wr.heap.size := hR.out.lt
      have kc0 := SW.out.c0
      have kc1 := SW.out.c1
      have kc2 := SW.out.c2
      have kc3 := SW.out.c3
      have kf0 := frozen_of_row _ _ 0 _ _ SW.out
      have kf1 := frozen_of_row _ _ 1 _ _ SW.out
      have kf2 := frozen_of_row _ _ 2 _ _ SW.out
      have kf3 := frozen_of_row _ _ 3 _ _ SW.out
      clear RW hR PW
      go_wp2
      have hwr := BW.out.size
      refine bodyPost_ret (results_row_tmp rfl _ _ (w.heap.size + 1) 35 _ (0, 0) _ rfl (RnI.four SW.out (n : Int) (s : Int) (e : Int) (.slice (some ⟨w1.heap.size, 0, none⟩) j j)) Tryd.underlying35 rfl sizeRn) rfl ⟨w1.heap.size, by rw [hlm.out]; rfl, ?_, by omega, ?_⟩
      · unfold Row
        rw [(keep_four wr (w.heap.size + 1) _ _ _ _).block w1.heap.size hgr (by omega)]
        exact HRW.out
      · exact below_four BW.out (Nat.le_succ _) _ _ _ _
end Spn
end Go.Proofs.YthoakchdlidemaaDoor

/- THE PLAIN MATHEMATICS OF LAYER 12: counts, and going up -/
namespace Go.Proofs.YthoakchdlidemaaDoor
namespace Bat
open Tree
theorem D_dg {n : Nat} (h1 : 1 ≤ n) : (D n 0).length = dg (n - 1) := by
  by_cases h : n = 1
  · subst h; rw [D_one 0 (by omega)]; simp [dg]
  · have hne : n - 1 ≠ 0 := by omega
    have e1 := Nat.log2_self_le hne
    have e2 := Nat.lt_log2_self (n := n - 1)
    rw [D_zero (n - 1).log2 n (by omega) (by omega)]
    unfold dg
    rw [if_neg hne]
theorem wit_all {is : List Nat} {n : Nat} (h : ∀ i ∈ is, i < n) : wit is 0 n = is := by
  unfold wit
  rw [List.filter_eq_self]
  intro i hi
  simp [h i hi]
theorem told_few {is : List Nat} {n : Nat} (h1 : 1 ≤ n) (hp : is.Pairwise (· < ·)) (hi : ∀ i ∈ is, i < n) (h0 : is ≠ []) : (othF n 0 n is).length + is.length ≤ n ∧ (othF n 0 n is).length ≤ is.length * dg (n - 1) := by
  have hw := wit_all hi
  have c1 := oth_count is (hp.imp fun h => by omega) n 0 n (Nat.le_refl _) h1
  obtain ⟨i, hm⟩ := List.exists_mem_of_ne_nil _ h0
  have c2 := oth_most is n 0 n (Nat.le_refl _) h1 (tch_mem.2 ⟨i, hm, by omega, by have := hi i hm; omega⟩)
  rw [Nat.zero_add, hw] at c1 c2
  rw [D_dg h1] at c2
  exact ⟨c1, c2⟩
theorem many_told {is : List Nat} {n : Nat} (l : List T) (h1 : 1 ≤ n) (hn : n ≤ l.length) (hi : ∀ i ∈ is, i < n) : (othF n 0 n is).map (rt l) = many is 0 (l.take n) := by
  have e := othF_hash l is n 0 n h1 (Nat.le_refl _) (by omega)
  rw [Nat.zero_add, wit_all hi] at e
  have : seg l 0 n = l.take n := by simp [seg]
  rw [this] at e
  exact e
/-- a path of known hashes leads up -/
theorem up_val {is : List Nat} {val : Nat × Nat → T} (hv : ∀ b m, 2 ≤ m → tch is b (b + m) = true → val (b, b + m) = nd (val (b, b + sp m)) (val (b + sp m, b + m))) {i : Nat} (hi : i ∈ is) :
    ∀ (f b m : Nat), 1 ≤ m → m ≤ f → b ≤ i → i < b + m → Tree.upd (val (i, i + 1)) (D m (i - b)) ((pthF f b m i).map val) = val (b, b + m)
  | 0, b, m, h1, h2, _, _ => by omega
  | f + 1, b, m, h1, h2, hb, hbm => by
    by_cases hm : m < 2
    · obtain rfl : m = 1 := by omega
      obtain rfl : i = b := by omega
      rw [pthF_small (by omega), D_one _ (by omega)]
      rfl
    · have s1 := sp_lt (n := m) (by omega)
      have s2 := sp_pos (n := m) (by omega)
      have htc : tch is b (b + m) = true := tch_mem.2 ⟨i, hi, hb, hbm⟩
      rw [hv b m (by omega) htc]
      by_cases hl : i < b + sp m
      · rw [pthF_left (by omega) hl, D_left (by omega) (by omega), List.map_append, List.map_singleton, upd_snoc _ _ _ _ _ (by rw [List.length_map, pthF_len f b (sp m) i (by omega) hb]), up_val hv hi f b (sp m) (by omega) (by omega) hb hl]
        rfl
      · have ih := up_val hv hi f (b + sp m) (m - sp m) (by omega) (by omega) (by omega) (by omega)
        rw [show b + sp m + (m - sp m) = b + m by omega, show i - (b + sp m) = i - b - sp m by omega] at ih
        rw [pthF_right (by omega) hl, D_right (by omega) (by omega), List.map_append, List.map_singleton, upd_snoc _ _ _ _ _ (by rw [List.length_map, pthF_len f (b + sp m) (m - sp m) i (by omega) (by omega), show i - (b + sp m) = i - b - sp m by omega]), ih]
        rfl
/-- what is true of told ones and leaves, and goes up -/
structure Cls (is : List Nat) (n : Nat) (p : Nat × Nat → Prop) : Prop where
  nn : ∀ b m, 2 ≤ m → tch is b (b + m) = true → p (b, b + sp m) → p (b + sp m, b + m) → p (b, b + m)
  tt : ∀ s ∈ othF n 0 n is, p s
  ll : ∀ i ∈ is, p (i, i + 1)
theorem Cls.down {is : List Nat} {n : Nat} {p : Nat × Nat → Prop} (h : Cls is n p) : ∀ (f b m : Nat), 1 ≤ m → m ≤ f → (∀ s ∈ othF f b m is, p s) → p (b, b + m)
  | 0, b, m, h1, h2, _ => by omega
  | f + 1, b, m, h1, h2, ho => by
    cases ht : tch is b (b + m) with
    | false => exact ho _ (by rw [othF_no ht]; exact List.mem_singleton.2 rfl)
    | true =>
      by_cases hm : m < 2
      · obtain rfl : m = 1 := by omega
        obtain ⟨i, hi, h4, h5⟩ := tch_mem.1 ht
        obtain rfl : i = b := by omega
        exact h.ll i hi
      · have s1 := sp_lt (n := m) (by omega)
        have s2 := sp_pos (n := m) (by omega)
        rw [othF_two ht (by omega)] at ho
        have q2 := h.down f (b + sp m) (m - sp m) (by omega) (by omega) (fun s hs => ho s (List.mem_append_right _ hs))
        rw [show b + sp m + (m - sp m) = b + m by omega] at q2
        exact h.nn b m (by omega) ht (h.down f b (sp m) (by omega) (by omega) (fun s hs => ho s (List.mem_append_left _ hs))) q2
theorem Cls.path {is : List Nat} {n : Nat} {p : Nat × Nat → Prop} (h : Cls is n p) {i : Nat} (hi : i ∈ is) : ∀ (f b m : Nat), 1 ≤ m → m ≤ f → b ≤ i → i < b + m → (∀ s ∈ othF f b m is, p s) → ∀ s ∈ pthF f b m i, p s
  | 0, b, m, h1, h2, _, _, _ => by omega
  | f + 1, b, m, h1, h2, hb, hbm, ho => by
    by_cases hm : m < 2
    · rw [pthF_small (by omega)]; intro s hs; cases hs
    · have s1 := sp_lt (n := m) (by omega)
      have s2 := sp_pos (n := m) (by omega)
      rw [othF_two (tch_mem.2 ⟨i, hi, hb, hbm⟩) (by omega)] at ho
      intro s hs
      by_cases hl : i < b + sp m
      · rw [pthF_left (by omega) hl] at hs
        rcases List.mem_append.1 hs with hs | hs
        · exact h.path hi f b (sp m) (by omega) (by omega) hb hl (fun s hs => ho s (List.mem_append_left _ hs)) s hs
        · obtain rfl := List.mem_singleton.1 hs
          have := h.down f (b + sp m) (m - sp m) (by omega) (by omega) (fun s hs => ho s (List.mem_append_right _ hs))
          rwa [show b + sp m + (m - sp m) = b + m by omega] at this
      · rw [pthF_right (by omega) hl] at hs
        rcases List.mem_append.1 hs with hs | hs
        · exact h.path hi f (b + sp m) (m - sp m) (by omega) (by omega) (by omega) (by omega) (fun s hs => ho s (List.mem_append_right _ hs)) s hs
        · obtain rfl := List.mem_singleton.1 hs
          exact h.down f b (sp m) (by omega) (by omega) (fun s hs => ho s (List.mem_append_left _ hs))
end Bat
end Go.Proofs.YthoakchdlidemaaDoor

/- Layer 14: what is told of a tree's leaves -/
namespace Go.Proofs.YthoakchdlidemaaDoor
open Go.RowKit Go.Shelf
namespace Spn
theorem tolS_rt {L : List (List UInt8)} {n s e : Nat} (hse : s < e) (hen : e ≤ n) : tolS L n s e = (Tree.othF n 0 n (rix s e)).map (Bat.rt L) := by
  unfold tolS
  rw [oth_run hse n 0 n (by omega) (Nat.le_refl _)]
  rfl
theorem tolS_len {L : List (List UInt8)} {n s e : Nat} : (tolS L n s e).length = (Tree.runF n 0 n s e).length := List.length_map _
theorem tolS_hs {L : List (List UInt8)} (hL : Tree.Hs L) (n s e : Nat) : Tree.Hs (tolS L n s e) := fun x hx => by
  unfold tolS at hx
  obtain ⟨q, _, rfl⟩ := List.mem_map.1 hx
  exact Tree.root_hash fun t ht => hL t (List.mem_of_mem_take (List.mem_of_mem_drop ht))
theorem hsB_is {l : List (List UInt8)} (h : Tree.Hs l) : hsB8 l = true := by
  unfold hsB8
  rw [List.all_eq_true]
  intro x hx
  simp [h x hx]
theorem rix_get {s e k i : Nat} (h : (rix s e)[k]? = some i) : i = s + k ∧ k < e - s := by
  obtain ⟨hk, e1⟩ := List.getElem?_eq_some_iff.1 h
  rw [rix_len] at hk
  simp at e1
  omega
/-- the leaves of a run -/
abbrev lvR (L : List (List UInt8)) (s e : Nat) : List (List UInt8) := (L.drop s).take (e - s)
theorem lvR_len {L : List (List UInt8)} {s e : Nat} (h : e ≤ L.length) : (lvR L s e).length = e - s := by rw [List.length_take, List.length_drop]; omega
theorem tol_val {L : List (List UInt8)} {n s e : Nat} (hse : s < e) (hen : e ≤ n) (hn : n ≤ L.length) : ∃ val, Val (rix s e) n (tolS L n s e) (lvR L s e) val ∧ val (0, n) = Tree.root (L.take n) := by
  obtain ⟨val, V⟩ := val_of (n := n) hse hen (H := tolS L n s e) (L := lvR L s e) tolS_len (lvR_len (by omega))
  have F : Bat.Fit (rix s e) n L val := Bat.Val.fit V hn (fun i hi => by have := mem_rix.1 hi; omega) (tolS_rt hse hen) (fun k i h => by
    obtain ⟨rfl, hk⟩ := rix_get h
    rw [List.getElem?_take, if_pos hk, List.getElem?_drop])
  exact ⟨val, V, F.root (by omega)⟩
theorem tol_many {L : List (List UInt8)} {n s e : Nat} (hse : s < e) (hen : e ≤ n) (hn : n ≤ L.length) : tolS L n s e = Tree.many (rix s e) 0 (L.take n) := by
  rw [tolS_rt hse hen]
  exact Bat.many_told L (by omega) hn (fun i hi => by have := mem_rix.1 hi; omega)
end Spn
end Go.Proofs.YthoakchdlidemaaDoor

/- Layer 14, the program: a joiner -/
namespace Go.Proofs.YthoakchdlidemaaDoor
open Go.RowKit Go.Shelf
namespace Spn
theorem infoB14 : (Tryd.prog.info? 5).map (fun i => (i.zero, i.size, i.bytes)) = some (some (.int .u8 0), 1, 1) := by kernel_rfl
theorem sizeB14 : (Tryd.prog.info? 5).map (·.size) = some 1 := by kernel_rfl
theorem cellsB14 : Tryd.prog.cellsOf 5 = 1 := by kernel_rfl
set_option maxRecDepth 100000 in
set_option maxHeartbeats 4000000 in
theorem sclone14 (s : ByteArray) (hs : s.size ≤ 1000000) (w : World) : Calls Tryd.prog 72 #[.string s] w fun r w' => r = .returned (.string s) ∧ Below w.heap.size w w' := by
  by_cases h0 : s.size = 0
  · obtain rfl : s = ⟨#[]⟩ := ByteArray.ext (Array.eq_empty_of_size_eq_zero h0)
    go_enter Tryd.func72, Tryd.ntmps72
    go_wp2
    go_ret
    exact ⟨rfl, Below.refl _ _⟩
  · obtain ⟨i0, hi, hz0, hz1, hz2⟩ := info_parts infoB14
    obtain ⟨M, hM⟩ : ∃ M, madeCells (Value.int .u8 0).cells (s.size * 1) = M := ⟨_, rfl⟩
    have hMs : M.size = s.size := by rw [← hM, size_madeCells, Nat.mul_one]
    have hmk := run_make (P := Tryd.prog) w 67 5 i0 (.int .u8 0) Tryd.underlying67 hi hz0 .i64 .i64 (s.size : Int) (s.size : Int) (by omega) (by omega) (by rw [hz2]; omega) (by omega)
    rw [Int.toNat_natCast, hz1, hM] at hmk
    have hrow := heap_alloc_new w (.cells M 5)
    have hcp := Lib.run_copy_row_string (P := Tryd.prog) (w.alloc (.cells M 5)) 67 9 3 5 w.heap.size 0 s.size s.size s M 5 Tryd.underlying67 sizeB14 hrow (Nat.le_refl _) (by omega)
    rw [List.take_zero, List.nil_append, List.drop_of_length_le (by rw [Array.length_toList]; omega), List.append_nil] at hcp
    have hY : (Lib.byteCells s.data.toList).toArray.size = s.size := by rw [List.size_toArray, Lib.byteCells_length, ← Lib.size_eq]
    have hrow2 := setRow_heap (w.alloc (.cells M 5)) w.heap.size M (Lib.byteCells s.data.toList).toArray 5 (0, 0) hrow
    have hne : s.data.toList ≠ [] := fun e => h0 (by rw [Lib.size_eq, e]; rfl)
    have hus := Lib.run_unsafeString_row (P := Tryd.prog) ((w.alloc (.cells M 5)).setRow w.heap.size (Lib.byteCells s.data.toList).toArray) 129 3 9 5 Tryd.underlying129 cellsB14 w.heap.size (Lib.byteCells s.data.toList).toArray.size (by unfold World.shape?; rw [hrow2]) s.data.toList hne (by rw [← Lib.size_eq]; omega) (by rw [← Lib.size_eq]; omega)
      (fun j x hx => by
        rw [Addr.add_mid, cell_of_row _ _ _ _ _ _ hrow2, Nat.zero_add]
        simp [Lib.byteCells, hx])
    rw [← Lib.size_eq] at hus
    have q0 : ((s.size : Int) == 0) = false := by rw [beq_eq_false_iff_ne]; omega
    have q1 : (0 : Int) < (s.size : Int) := by omega
    have B2 : Hid (Below w.heap.size w ((w.alloc (.cells M 5)).setRow w.heap.size (Lib.byteCells s.data.toList).toArray)) :=
      ((Below.refl _ w).alloc (Nat.le_refl _) (.cells M 5)).trans ⟨rfl, rfl, rfl, by simp, fun k hk => setRow_other _ _ _ _ (Nat.ne_of_lt hk)⟩
    generalize Lib.byteCells s.data.toList = Y at *
    clear hM hi hz0 hz1 hz2 hrow hrow2 hY hMs
    go_enter Tryd.func72, Tryd.ntmps72
    go_wp2
    go_ret
    exact ⟨rfl, Lib.below_freeze B2.out (p := ⟨w.heap.size, 0, none⟩) (Nat.le_refl _) _⟩
set_option maxRecDepth 100000 in
theorem strClone14 (s : ByteArray) (hs : s.size ≤ 1000000) (w : World) : Calls Tryd.prog 47 #[.string s] w fun r w' => r = .returned (.string s) ∧ Below w.heap.size w w' := by
  have i1 := sclone14 s hs w
  go_enter Tryd.func47, Tryd.ntmps47
  go_wp2_with (go_at_call 72; refine i1.mono ?_; rintro r w1 ⟨rfl, b1⟩)
  go_ret
  exact ⟨rfl, b1⟩
/-- a joiner: the next one that is wanted, the end, what it has -/
def JnI (w : World) (g : Nat) (a e : Int) (v : Value) : Prop := w.heap[g]? = some (.cells #[.int .i64 a, .int .i64 e, v] 90 (0, 0))
theorem JnI.c0 {w : World} {g : Nat} {a e : Int} {v : Value} (h : JnI w g a e v) : w.cell? ⟨g, 0, none⟩ = some (.int .i64 a) := by rw [cell_of_row w g 0 _ _ _ h]; rfl
theorem JnI.c1 {w : World} {g : Nat} {a e : Int} {v : Value} (h : JnI w g a e v) : w.cell? ⟨g, 1, none⟩ = some (.int .i64 e) := by rw [cell_of_row w g 1 _ _ _ h]; rfl
theorem JnI.c2 {w : World} {g : Nat} {a e : Int} {v : Value} (h : JnI w g a e v) : w.cell? ⟨g, 2, none⟩ = some v := by rw [cell_of_row w g 2 _ _ _ h]; rfl
theorem JnI.new (w : World) (a e : Int) (v : Value) : JnI (w.alloc (.cells #[.int .i64 a, .int .i64 e, v] 90)) w.heap.size a e v := heap_alloc_new w _
theorem JnI.below {w w' : World} {g : Nat} {a e : Int} {v : Value} (h : JnI w g a e v) (hb : Below w.heap.size w w') : JnI w' g a e v := (hb.block g (lt_of_heap h)).trans h
theorem JnI.keep {w w' : World} {g : Nat} {a e : Int} {v : Value} {S : Nat → Prop} (h : JnI w g a e v) (hb : Keep S w w') (hs : ¬ S g) : JnI w' g a e v := (hb.block g (lt_of_heap h) hs).trans h
theorem JnI.set0 {w : World} {g : Nat} {a e : Int} {v : Value} (h : JnI w g a e v) (a' : Int) : JnI (w.setCell ⟨g, 0, none⟩ (.int .i64 a')) g a' e v := heap_setCell_same w g 0 _ _ _ h
theorem JnI.set2 {w : World} {g : Nat} {a e : Int} {v : Value} (h : JnI w g a e v) (v' : Value) : JnI (w.setCell ⟨g, 2, none⟩ v') g a e v' := heap_setCell_same w g 2 _ _ _ h
set_option maxRecDepth 100000 in
theorem jOrNone (g : Nat) (w : World) : Calls Tryd.prog 49 #[.pointer (some ⟨g, 0, none⟩)] w fun r w' => r = .returned (.pointer (some ⟨g, 0, none⟩)) ∧ w' = w := by
  go_enter Tryd.func49, Tryd.ntmps49
  go_wp2
  go_ret
  exact ⟨rfl, rfl⟩
set_option maxRecDepth 100000 in
set_option maxHeartbeats 2000000 in
theorem jDone {w : World} {g : Nat} {a e : Int} {v : Value} (J : JnI w g a e v) (q : Bool) (hq : (a == e) = q) : Calls Tryd.prog 20 #[.pointer (some ⟨g, 0, none⟩)] w fun r w' => r = .returned (.bool q) ∧ ∃ m, w' = w.drewN m := by
  have i1 := jOrNone g
  have c0 := J.c0
  have c1 := J.c1
  clear J
  go_enter Tryd.func20, Tryd.ntmps20
  go_wp2_with fail
  go_quiet (first | (go_at_call 49; exact Calls.quiet_of_same (i1 _)))
  go_wp2
  go_ret
  exact ⟨rfl, _, rfl⟩
theorem drewN_below {w : World} (m : Nat) : Below w.heap.size w (w.drewN m) := ⟨rfl, rfl, rfl, Nat.le_refl _, fun _ _ => rfl⟩
set_option maxRecDepth 100000 in
set_option maxHeartbeats 2000000 in
theorem newJoiner_ok (x y : Nat) (h1 : x < y) (h2 : y ≤ 1099511627776) (w : World) : Calls Tryd.prog 17 #[sg (x : Int) (y : Int)] w fun r w' => ∃ g, r = .returned (.tuple #[.pointer (some ⟨g, 0, none⟩), .int .i64 0]) ∧ JnI w' g (x : Int) (y : Int) (.slice none 0 0) ∧ w.heap.size ≤ g ∧ Below w.heap.size w w' := by
  have S0 := SpI.new w (x : Int) (y : Int)
  have hb := hid ((Below.refl _ w).alloc (Nat.le_refl _) (.cells #[.int .i64 (x : Int), .int .i64 (y : Int)] 29))
  have c0 := S0.c0
  have c1 := S0.c1
  have HS := hid S0
  have i1 := fun w' => isRun_is 1099511627776 (x : Int) (y : Int) true (by simp [runB]; omega) w'
  clear S0 h1 h2
  go_enter Tryd.func17, Tryd.ntmps17
  go_wp2_with (go_at_call 25; refine (i1 _).mono ?_; rintro r w1 ⟨rfl, b1⟩; have S1 := HS.out.below b1; have d0 := S1.c0; have d1 := S1.c1; have B1 := hid (hb.out.trans (b1.mono hb.out.size)); clear S1 b1)
  go_ret2
  exact ⟨_, rfl, JnI.new w1 _ _ _, B1.out.size, B1.out.alloc B1.out.size _⟩
set_option maxRecDepth 100000 in
set_option maxHeartbeats 2000000 in
theorem areEntries_yes (l : List (List UInt8)) (hq : ∀ x ∈ l, x.length ≤ 1000) (a : Option Addr) (cap : Nat) (w : World) (hc : l.length ≤ 9223372036854775807) (hA : At w a l) :
    Calls Tryd.prog 46 #[.slice a l.length cap] w fun r w' => r = .returned (.bool true) ∧ w' = w := by
  have HQ := hid hq
  generalize hn : l.length = k at *
  have HA := hid hA
  clear hA hq
  go_enter Tryd.func46, Tryd.ntmps46
  go_wp2
  go_loopw [7] (fun i w' => ∃ j : Nat, j ≤ k ∧ i = .int .i64 (j : Int) ∧ w' = w) (fun i _ => k - (intOf i).toNat)
  case atStart => exact ⟨0, by omega, rfl, rfl⟩
  case round =>
    obtain ⟨j, hj, rfl, rfl⟩ := hrel
    by_cases hjk : j < k
    · have b0 : (j : Int) < (k : Int) := by omega
      obtain ⟨y, rfl⟩ := HA.out.pos (by omega)
      obtain ⟨s, hs, hcell⟩ := HA.out.cell j (by omega)
      have h1 : ¬ (1000 : Int) < (s.size : Int) := by
        have := HQ.out _ (List.getElem_mem (show j < l.length by omega))
        rw [← hs.out, data_length] at this
        omega
      clear HA hs HQ
      go_wp2
      exact ⟨⟨j + 1, by omega, by go_num, trivial⟩, by simp [intOf]; omega⟩
    · obtain rfl : j = k := by omega
      have b0 : ¬ (j : Int) < (j : Int) := by omega
      clear HA HQ
      go_wp2
      go_ret
      exact ⟨rfl, rfl⟩
end Spn
end Go.Proofs.YthoakchdlidemaaDoor
