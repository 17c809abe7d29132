import Derived.Test.YtbodgecbakcaaaaGreatDoorPkBR7
/- Layer 12, the document: all (written by genBR9.py) -/
namespace Go.Proofs.YtbodgecbakcaaaaGreatDoor
open Go.RowKit Go.Shelf
namespace Bat
def allP (f b m : Nat) (l : List Nat) (val : Nat × Nat → List UInt8) : List (List (List UInt8)) := (Tree.wit l b (b + m)).map fun i => (Tree.pthF f b m i).map val
theorem pth_fuel : ∀ (f b m i : Nat), (Tree.pthF f b m i).length ≤ f
  | 0, _, _, _ => Nat.le_refl _
  | f + 1, b, m, i => by
    rw [Tree.pthF]
    split
    · simp
    · split
      · rw [List.length_append]
        have := pth_fuel f b (Tree.sp m) i
        simp
        omega
      · rw [List.length_append]
        have := pth_fuel f (b + Tree.sp m) (m - Tree.sp m) i
        simp
        omega
theorem allP_len (f b m : Nat) (l : List Nat) (val : Nat × Nat → List UInt8) : ∀ p ∈ allP f b m l val, p.length ≤ f := fun p hp => by
  unfold allP at hp
  obtain ⟨i, _, rfl⟩ := List.mem_map.1 hp
  rw [List.length_map]
  exact pth_fuel f b m i
theorem allP_two {f b m : Nat} {l : List Nat} {val : Nat × Nat → List UInt8} (hm : 2 ≤ m) (hp : l.Pairwise (· < ·)) :
    allP (f + 1) b m l val = (allP f b (Tree.sp m) l val).map (· ++ [val (b + Tree.sp m, b + m)]) ++ (allP f (b + Tree.sp m) (m - Tree.sp m) l val).map (· ++ [val (b, b + Tree.sp m)]) := by
  have s1 := Tree.sp_lt (n := m) (by omega)
  unfold allP
  rw [wit_cut hp (show b ≤ b + Tree.sp m by omega) (show b + Tree.sp m ≤ b + m by omega), List.map_append, List.map_map, List.map_map, show b + Tree.sp m + (m - Tree.sp m) = b + m by omega]
  congr 1
  · refine List.map_congr_left fun i hi => ?_
    have := (List.mem_filter.1 hi).2
    simp at this
    show (Tree.pthF (f + 1) b m i).map val = (Tree.pthF f b (Tree.sp m) i).map val ++ _
    rw [Tree.pthF_left hm (by omega), List.map_append]
    rfl
  · refine List.map_congr_left fun i hi => ?_
    have := (List.mem_filter.1 hi).2
    simp at this
    show (Tree.pthF (f + 1) b m i).map val = (Tree.pthF f (b + Tree.sp m) (m - Tree.sp m) i).map val ++ _
    rw [Tree.pthF_right hm (by omega), List.map_append]
    rfl
theorem allP_wit {f b m B E : Nat} {l : List Nat} {val : Nat × Nat → List UInt8} (h1 : B ≤ b) (h2 : b + m ≤ E) : allP f b m (Tree.wit l B E) val = allP f b m l val := by
  unfold allP
  rw [wit_wit h1 h2]
theorem infoSt12 : (Tryz.prog.info? 9).map (fun i => (i.zero, i.size, i.bytes)) = some (some (.string ⟨#[]⟩), 1, 16) := by kernel_rfl
theorem append_t12 (w : World) (v : Value) (l : List (List UInt8)) (x : List UInt8) (h : OwnM 1 w v l.length (svs l)) (hl : l.length ≤ 1099511627777) :
    ∃ v' w', (Builtin.append_ #[23, 23] 23 #[v, .slice (some ⟨w.heap.size, 0, none⟩) 1 1]).run Tryz.prog (w.alloc (.cells #[.string ⟨x.toArray⟩] 9)) = .ok v' w' ∧ OwnM 1 w' v' (l.length + 1) (svs (l ++ [x])) ∧ Grow w w' v v' := by
  rw [show svs (l ++ [x]) = svs l ++ [sv x] by simp [svs]]
  exact append_oneL 23 9 _ 16 Tryz.underlying23 infoSt12 rfl w v l.length (svs l) [sv x] rfl (fun u hu => by
    simp only [List.mem_cons, List.not_mem_nil, or_false] at hu
    subst hu; rfl) h (by omega) (by rw [maxLen]; omega)
theorem append_l12 (w : World) (v : Value) (ls : List Value) (a : Option Addr) (n c : Nat) (h : OwnM 1 w v ls.length ls) (hl : ls.length ≤ 1000000) :
    ∃ v' w', (Builtin.append_ #[41, 41] 41 #[v, .slice (some ⟨w.heap.size, 0, none⟩) 1 1]).run Tryz.prog (w.alloc (.cells #[.slice a n c] 23)) = .ok v' w' ∧ OwnM 1 w' v' (ls.length + 1) (ls ++ [.slice a n c]) ∧ Grow w w' v v' :=
  append_oneL 41 23 _ 24 Tryz.underlying41 infoSl12 rfl w v ls.length ls [.slice a n c] rfl (fun u hu => by
    simp only [List.mem_cons, List.not_mem_nil, or_false] at hu
    subst hu; rfl) h (by omega) (by rw [maxLen]; omega)
theorem LL.nil_at {B : Nat} (w : World) (h : B ≤ w.heap.size) : LL B w (.slice none 0 0) [] :=
  ⟨[], fun _ => 0, ⟨rfl, h, fun _ _ => rfl, fun k u p hu => by simp at hu⟩, OwnM.nil 1 w, fun b hb => (by cases hb)⟩
theorem bel_one (w : World) : Below w.heap.size w (w.alloc (.cells #[.slice none 0 0] 23)).drew := ⟨rfl, rfl, rfl, ((Below.refl _ _).alloc (Nat.le_refl _) _).size, ((Below.refl _ _).alloc (Nat.le_refl _) _).block⟩
theorem LL.one (B : Nat) (w : World) (h : B ≤ w.heap.size) : LL B (w.alloc (.cells #[.slice none 0 0] 23)).drew (.slice (some ⟨w.heap.size, 0, none⟩) 1 1) [[]] := by
  have hr : (w.alloc (.cells #[Value.slice none 0 0] 23)).drew.heap[w.heap.size]? = some (.cells #[Value.slice none 0 0] 23 (0, 0)) := heap_alloc_new w _
  have hs : (w.alloc (.cells #[Value.slice none 0 0] 23)).drew.heap.size = w.heap.size + 1 := size_alloc w _
  refine ⟨[.slice none 0 0], fun _ => 0, ⟨rfl, by rw [hs]; omega, fun _ _ => rfl, fun k u p hu hp => ?_⟩, .inr ⟨w.heap.size, 1, rfl, Nat.le_refl _, by rw [maxLen]; omega, rfl, fun j u hu => ?_, ?_, by rw [hs]; omega⟩, fun b hb => ⟨by cases hb; exact h, rfl⟩⟩
  · have hk := (List.getElem?_eq_some_iff.1 hu).1
    simp at hk
    subst hk
    obtain rfl := Option.some.inj hu
    obtain rfl := Option.some.inj hp
    exact ⟨OwnM.nil 1 _, fun b hb => (by cases hb)⟩
  · rw [Nat.zero_add, cell_of_row _ _ _ _ _ _ hr]
    simpa using hu
  · exact there_of_row hr 0 1 (by simp)
theorem LL.mono {B B' : Nat} {w : World} {v : Value} {ps : List (List (List UInt8))} (h : LL B w v ps) (hB : B' ≤ B) : LL B' w v ps := by
  obtain ⟨vs, ρ, a, b, c⟩ := h
  exact ⟨vs, ρ, ⟨a.len, Nat.le_trans hB a.bs, fun k hk => a.lo k (Nat.lt_of_lt_of_le hk hB), a.own⟩, b, fun k hk => ⟨Nat.le_trans hB (c k hk).1, (c k hk).2⟩⟩
theorem LL.one' (B : Nat) (w : World) (n : Nat) (hn : w.heap.size = n) (h : B ≤ w.heap.size) : LL B (w.alloc (.cells #[.slice none 0 0] 23)).drew (.slice (some ⟨n, 0, none⟩) 1 1) [[]] := by
  subst hn
  exact LL.one B w h
set_option maxRecDepth 100000 in
set_option maxHeartbeats 8000000 in
theorem rall12_any (w0 : World) (g : Nat) (hg : w0.heap.size ≤ g) (val : Nat × Nat → List UInt8) : ∀ (f b m : Nat) (l : List Nat) (a : Option Addr) (ca : Nat) (w : World) (H L : List (List UInt8)), 1 ≤ m → m ≤ f → f ≤ 1099511627776 → b + m ≤ 1099511627776 → l.length ≤ 256 → l.Pairwise (· < ·) → AtI w a (ix l) →
    (∀ b m, 2 ≤ m → Tree.tch l b (b + m) = true → val (b, b + m) = Tree.nd (val (b, b + Tree.sp m)) (val (b + Tree.sp m, b + m))) → Below w0.heap.size w0 w → Wk w0 w g ((Tree.othF f b m l).map val ++ H) ((Tree.wit l b (b + m)).map (fun i => val (i, i + 1)) ++ L) →
    Calls Tryz.prog 44 #[.pointer (some ⟨g, 0, none⟩), .slice a l.length ca, .int .i64 (b : Int), .int .i64 ((b + m : Nat) : Int)] w fun r w' => ∃ v, r = .returned (.tuple #[sv (val (b, b + m)), v]) ∧ LL w.heap.size w' v (allP f b m l val) ∧ Wk w0 w' g H L ∧ Keep (fun k => k = g) w w' := by
  intro f
  induction f with
  | zero => intro b m l a ca w H L h1 h2; omega
  | succ f ih =>
    intro b m l a ca w H L h1 h2 hf h3 hl hp hA hv hB hW
    have i1 := within12_any l b (b + m) hl a ca w hA
    cases ht : Tree.tch l b (b + m) with
    | false =>
      rw [Tree.wit_nil ht] at i1 hW
      rw [Tree.othF_no ht] at hW
      have hps : allP (f + 1) b m l val = [] := by unfold allP; rw [Tree.wit_nil ht]; rfl
      rw [hps]
      clear hps
      generalize b + m = e at *
      have hgl := hW.lt
      obtain ⟨aH, cH, aL, cL, hr, q1, q2, q3, q4, q5, q6⟩ := hW
      simp only [List.map_cons, List.map_nil, List.cons_append, List.nil_append] at hr q1 q3 q5 q6
      generalize val (b, e) = y at *
      obtain ⟨x, rfl⟩ := q5.pos (by simp)
      obtain ⟨x', hx', xb, xc⟩ := q5 0 y rfl
      obtain rfl := Option.some.inj hx'
      have Q5 := hid (q5.drop 1)
      rw [List.drop_succ_cons, List.drop_zero] at Q5
      rw [List.length_cons] at hr q1
      rw [show sv y = Value.string ⟨y.toArray⟩ from rfl] at xc ⊢
      have HR := hid hr
      have HB := hid hB
      have Q6 := hid q6
      obtain ⟨nH, hnH⟩ : ∃ n, H.length = n := ⟨_, rfl⟩
      obtain ⟨nL, hnL⟩ : ∃ n, L.length = n := ⟨_, rfl⟩
      have EH := hid hnH
      have EL := hid hnL
      rw [hnH] at HR q1
      rw [hnL] at HR q3
      clear hA ih ht hr hB q5 q6 hx' hv hnH hnL
      go_enter Tryz.func44, Tryz.ntmps44
      go_wp2_with (go_at_call 31; fail)
      with_reducible refine i1.mono ?_
      rintro r w1 ⟨v1, rfl, o1, b1⟩
      obtain ⟨a1, c1, hv1, _, _, _⟩ := Own.atI o1
      subst hv1
      simp only [show (ix []).length = 0 from rfl]
      have R1 : w1.heap[g]? = some (.cells #[.slice (some x) (nH + 1) cH, .slice aL nL cL] 84 (0, 0)) := (b1.block g hgl).trans HR.out
      have k0 : w1.cell? ⟨g, 0, none⟩ = some (.slice (some x) (nH + 1) cH) := by rw [cell_of_row _ _ _ _ _ _ R1]; rfl
      have k1 : w1.frozen? ⟨g, 0, none⟩ = false := frozen_of_row _ _ _ _ _ R1
      have k2 : w1.cell? (x.add 0) = some (.string ⟨y.toArray⟩) := ((HB.out.trans (b1.mono HB.out.size)).cell (by rw [addr_block]; exact xb)).trans xc
      have k3 : w1.cell? x = some (.string ⟨y.toArray⟩) := k2
      have l0 : (0 : Int) < (nH : Int) + 1 := by omega
      have l1 : (1 : Int) ≤ (nH : Int) + 1 := by omega
      have HR1 := hid R1
      have HB1 := hid b1
      clear o1 b1 R1
      have F1 : ∀ (v : Value), (w1.setCell ⟨g, 0, none⟩ v).heap[g]? = some (.cells #[v, .slice aL nL cL] 84 (0, 0)) := fun v => heap_setCell_same w1 g 0 _ _ v HR1.out
      have HF := hid F1
      have KK : ∀ v, Hid (Keep (fun k => k = g) w (w1.setCell ⟨g, 0, none⟩ v)) := fun v => (Keep.ofBelow (S := fun k => k = g) HB1.out).trans (Keep.ofSet (S := fun k => k = g) _ g 0 _ rfl) (fun _ _ e => e)
      have LLN : Hid (∀ v', LL w.heap.size (w1.setCell ⟨g, 0, none⟩ v') (.slice none 0 0) []) := fun v' => LL.nil_at _ (Nat.le_trans HB1.out.size (Nat.le_of_eq (by simp [World.setCell])))
      clear F1 HR1 HB1
      by_cases hc : cH - 1 = 0
      · have hH0 : H = [] := List.eq_nil_of_length_eq_zero (by rw [EH.out]; omega)
        go_wp2
        go_ret2
        exact ⟨_, rfl, LLN.out _, ⟨some x, 0, aL, cL, by rw [EH.out, EL.out]; exact HF.out _, by rw [EH.out]; omega, by omega, by rw [EL.out]; exact q3, q4, by rw [hH0]; exact At.nil _ _, Q6.out⟩, (KK _).out⟩
      · go_wp2
        go_ret2
        exact ⟨_, rfl, LLN.out _, ⟨some (x.add 1), cH - 1, aL, cL, by rw [EH.out, EL.out]; exact HF.out _, by rw [EH.out]; omega, by omega, by rw [EL.out]; exact q3, q4, Q5.out, Q6.out⟩, (KK _).out⟩
    | true =>
      have hwl : (Tree.wit l b (b + m)).length ≤ 256 := Nat.le_trans (List.length_filter_le _ _) hl
      have hwn := Tree.wit_ne ht
      by_cases hm : m < 2
      · obtain rfl : m = 1 := by omega
        rw [Tree.othF_one ht (by omega), wit_single hp ht] at hW
        have hps : allP (f + 1) b 1 l val = [[]] := by unfold allP; rw [wit_single hp ht]; simp [Tree.pthF_small]
        rw [hps]
        clear hps
        simp only [List.map_cons, List.map_nil, List.cons_append, List.nil_append] at hW
        have hz : (((Tree.wit l b (b + 1)).length : Int) == 0) = false := by simpa using hwn
        have hix : (ix (Tree.wit l b (b + 1))).length = (Tree.wit l b (b + 1)).length := by simp [ix]
        have hsb : ((b + 1 : Nat) : Int) - (b : Int) = 1 := by omega
        have hsw : IntKind.i64.wrap (((b + 1 : Nat) : Int) - (b : Int)) = 1 := by rw [hsb, IntKind.wrap_i64]; omega
        generalize b + 1 = e at *
        generalize (Tree.wit l b e).length = q at *
        have hgl := hW.lt
        obtain ⟨aH, cH, aL, cL, hr, q1, q2, q3, q4, q5, q6⟩ := hW
        generalize val (b, e) = y at *
        obtain ⟨x, rfl⟩ := q6.pos (by simp)
        obtain ⟨x', hx', xb, xc⟩ := q6 0 y rfl
        obtain rfl := Option.some.inj hx'
        have Q6 := hid (q6.drop 1)
        rw [List.drop_succ_cons, List.drop_zero] at Q6
        rw [List.length_cons] at hr q3
        rw [show sv y = Value.string ⟨y.toArray⟩ from rfl] at xc ⊢
        have HR := hid hr
        have HB := hid hB
        have Q5 := hid q5
        obtain ⟨nH, hnH⟩ : ∃ n, H.length = n := ⟨_, rfl⟩
        obtain ⟨nL, hnL⟩ : ∃ n, L.length = n := ⟨_, rfl⟩
        have EH := hid hnH
        have EL := hid hnL
        rw [hnH] at HR q1
        rw [hnL] at HR q3
        clear hA ih ht hr hB q5 q6 hx' hv hnH hnL
        go_enter Tryz.func44, Tryz.ntmps44
        go_wp2_with (go_at_call 31; fail)
        with_reducible refine i1.mono ?_
        rintro r w1 ⟨v1, rfl, o1, b1⟩
        obtain ⟨a1, c1, hv1, _, _, _⟩ := Own.atI o1
        subst hv1
        rw [hix]
        have R1 : w1.heap[g]? = some (.cells #[.slice aH nH cH, .slice (some x) (nL + 1) cL] 84 (0, 0)) := (b1.block g hgl).trans HR.out
        have k0 : w1.cell? ⟨g, 1, none⟩ = some (.slice (some x) (nL + 1) cL) := by rw [cell_of_row _ _ _ _ _ _ R1]; rfl
        have k1 : w1.frozen? ⟨g, 1, none⟩ = false := frozen_of_row _ _ _ _ _ R1
        have k2 : w1.cell? (x.add 0) = some (.string ⟨y.toArray⟩) := ((HB.out.trans (b1.mono HB.out.size)).cell (by rw [addr_block]; exact xb)).trans xc
        have k3 : w1.cell? x = some (.string ⟨y.toArray⟩) := k2
        have l0 : (0 : Int) < (nL : Int) + 1 := by omega
        have l1 : (1 : Int) ≤ (nL : Int) + 1 := by omega
        have HR1 := hid R1
        have HB1 := hid b1
        clear o1 b1 R1
        have F1 : ∀ (v : Value), (w1.setCell ⟨g, 1, none⟩ v).heap[g]? = some (.cells #[.slice aH nH cH, v] 84 (0, 0)) := fun v => heap_setCell_same w1 g 1 _ _ v HR1.out
        have HF := hid F1
        have KK : ∀ v, Hid (Keep (fun k => k = g) w (w1.setCell ⟨g, 1, none⟩ v)) := fun v => (Keep.ofBelow (S := fun k => k = g) HB1.out).trans (Keep.ofSet (S := fun k => k = g) _ g 1 _ rfl) (fun _ _ e => e)
        clear F1 HR1 HB1
        have MK1 : ∀ w : World, (Instr.makeSlice 41 (.int .i64 1) (.int .i64 1)).run Tryz.prog w = .ok (.slice (some ⟨w.heap.size, 0, none⟩) 1 1) (w.alloc (.cells (List.replicate 1 (.slice none 0 0)).toArray 23)) := fun w => make_lists w 1 (by omega)
        have SZ : Hid (∀ v, (w1.setCell ⟨g, 1, none⟩ v).heap.size = w1.heap.size) := fun v => by simp [World.setCell]
        by_cases hc : cL - 1 = 0
        · have hH0 : L = [] := List.eq_nil_of_length_eq_zero (by rw [EL.out]; omega)
          go_wp2
          go_region
          go_wp2
          go_ret2
          exact ⟨_, rfl, LL.one' w.heap.size _ _ (SZ.out _) (KK _).out.size, Wk.below (w := w1.setCell ⟨g, 1, none⟩ _) ⟨aH, cH, some x, 0, by rw [EH.out, EL.out]; exact HF.out _, by rw [EH.out]; exact q1, q2, by rw [EL.out]; omega, by omega, Q5.out, by rw [hH0]; exact At.nil _ _⟩ (bel_one _), (KK _).out.trans (Keep.ofBelow (S := fun k => k = g) (bel_one _)) (fun _ _ e => e)⟩
        · skip
          go_wp2
          go_region
          go_wp2
          go_ret2
          exact ⟨_, rfl, LL.one' w.heap.size _ _ (SZ.out _) (KK _).out.size, Wk.below (w := w1.setCell ⟨g, 1, none⟩ _) ⟨aH, cH, some (x.add 1), cL - 1, by rw [EH.out, EL.out]; exact HF.out _, by rw [EH.out]; exact q1, q2, by rw [EL.out]; omega, by omega, Q5.out, Q6.out⟩ (bel_one _), (KK _).out.trans (Keep.ofBelow (S := fun k => k = g) (bel_one _)) (fun _ _ e => e)⟩
      · have s1 := Tree.sp_lt (n := m) (by omega)
        have s2 := Tree.sp_pos (n := m) (by omega)
        have hz : (((Tree.wit l b (b + m)).length : Int) == 0) = false := by simpa using hwn
        have hix : (ix (Tree.wit l b (b + m))).length = (Tree.wit l b (b + m)).length := by simp [ix]
        have hsb : IntKind.i64.wrap (((b + m : Nat) : Int) - (b : Int)) = (m : Int) := by rw [IntKind.wrap_i64]; omega
        have hsb' : ((b + m : Nat) : Int) - (b : Int) = (m : Int) := by omega
        have hm1 : ((m : Int) == 1) = false := by simp; omega
        have iS := fun w' => rsplit_any (m : Int) (by omega) (by omega) w'
        rw [show spI (m : Int) = ((Tree.sp m : Nat) : Int) from rfl] at iS
        have e1 := oth_wit (l := l) (B := b) (E := b + m) f b (Tree.sp m) (Nat.le_refl _) (by omega)
        have e2 := oth_wit (l := l) (B := b) (E := b + m) f (b + Tree.sp m) (m - Tree.sp m) (by omega) (by omega)
        have x1 := wit_wit (l := l) (b := b) (e := b + m) (x := b) (y := b + Tree.sp m) (Nat.le_refl _) (by omega)
        have x2 := wit_wit (l := l) (b := b) (e := b + m) (x := b + Tree.sp m) (y := b + m) (by omega) (Nat.le_refl _)
        have hvI : ∀ b' m', 2 ≤ m' → Tree.tch (Tree.wit l b (b + m)) b' (b' + m') = true → val (b', b' + m') = Tree.nd (val (b', b' + Tree.sp m')) (val (b' + Tree.sp m', b' + m')) := fun b' m' h h' => hv b' m' h (by
          obtain ⟨i, hi, h5, h6⟩ := Tree.tch_mem.1 h'
          exact Tree.tch_mem.2 ⟨i, (List.mem_filter.1 hi).1, h5, h6⟩)
        have c1 := fun (a' : Option Addr) (c' : Nat) w' H' L' (h : AtI w' a' (ix (Tree.wit l b (b + m)))) => ih b (Tree.sp m) (Tree.wit l b (b + m)) a' c' w' H' L' (by omega) (by omega) (by omega) (by omega) hwl (wit_up hp b (b + m)) h hvI
        have c2 := fun (a' : Option Addr) (c' : Nat) w' H' L' (h : AtI w' a' (ix (Tree.wit l b (b + m)))) => ih (b + Tree.sp m) (m - Tree.sp m) (Tree.wit l b (b + m)) a' c' w' H' L' (by omega) (by omega) (by omega) (by omega) hwl (wit_up hp b (b + m)) h hvI
        rw [show b + Tree.sp m + (m - Tree.sp m) = b + m by omega] at c2
        rw [e1, x1, allP_wit (Nat.le_refl _) (by omega)] at c1
        rw [e2, x2, allP_wit (by omega) (by omega)] at c2
        rw [allP_two (by omega) hp]
        have hfL := allP_len f b (Tree.sp m) l val
        have hfR := allP_len f (b + Tree.sp m) (m - Tree.sp m) l val
        have hnL : (allP f b (Tree.sp m) l val).length ≤ 256 := by unfold allP; rw [List.length_map]; exact Nat.le_trans (List.length_filter_le _ _) hl
        have hnR : (allP f (b + Tree.sp m) (m - Tree.sp m) l val).length ≤ 256 := by unfold allP; rw [List.length_map]; exact Nat.le_trans (List.length_filter_le _ _) hl
        obtain ⟨psL, hpsL⟩ : ∃ ps, allP f b (Tree.sp m) l val = ps := ⟨_, rfl⟩
        obtain ⟨psR, hpsR⟩ : ∃ ps, allP f (b + Tree.sp m) (m - Tree.sp m) l val = ps := ⟨_, rfl⟩
        rw [hpsL] at hfL hnL c1 ⊢
        rw [hpsR] at hfR hnR c2 ⊢
        clear hpsL hpsR
        rw [Tree.othF_two ht (by omega), wit_cut hp (show b ≤ b + Tree.sp m by omega) (show b + Tree.sp m ≤ b + m by omega), List.map_append, List.map_append, List.append_assoc, List.append_assoc] at hW
        have hval := hv b m (by omega) ht
        obtain ⟨cN, hN⟩ : ∃ c, Hid (nodeOf (val (b, b + Tree.sp m)) (val (b + Tree.sp m, b + m)) = (val (b, b + m), c)) := ⟨(nodeOf (val (b, b + Tree.sp m)) (val (b + Tree.sp m, b + m))).2, Prod.ext (by rw [hval]; exact nodeOf_nd _ _) rfl⟩
        have iN := fun w' => rnode_at hN w'
        have hkw : IntKind.i64.wrap ((b : Int) + ((Tree.sp m : Nat) : Int)) = ((b + Tree.sp m : Nat) : Int) := by rw [IntKind.wrap_i64]; omega
        have hgl := hW.lt
        generalize (Tree.othF f b (Tree.sp m) l).map val = X at *
        generalize (Tree.othF f (b + Tree.sp m) (m - Tree.sp m) l).map val = Y at *
        generalize (Tree.wit l b (b + Tree.sp m)).map (fun i => val (i, i + 1)) = U at *
        generalize (Tree.wit l (b + Tree.sp m) (b + m)).map (fun i => val (i, i + 1)) = V at *
        generalize hS : b + Tree.sp m = kk at *
        generalize Tree.sp m = sm at *
        obtain ⟨e, he⟩ : ∃ e, b + m = e := ⟨_, rfl⟩
        rw [he] at i1 c1 c2 hz hix hsb hsb' iN ⊢
        generalize val (b, e) = v0 at *
        generalize val (b, kk) = v1' at *
        generalize val (kk, e) = v2' at *
        generalize Tree.wit l b e = I at *
        have hkk : (b : Int) + (sm : Int) = (kk : Int) := by omega
        simp only [show sv v1' = Value.string ⟨v1'.toArray⟩ from rfl] at c1 iN
        simp only [show sv v2' = Value.string ⟨v2'.toArray⟩ from rfl] at c2 iN
        have HW := hid hW
        have HB := hid hB
        clear hA ih ht e1 e2 x1 x2 he hS hwn hv hvI hval hN hW hB hp
        go_enter Tryz.func44, Tryz.ntmps44
        go_wp2_with (go_at_call 31; fail)
        with_reducible refine i1.mono ?_
        rintro r w1 ⟨v1, rfl, o1, b1⟩
        obtain ⟨a1, ca1, hv1, hat1, _, _⟩ := Own.atI o1
        subst hv1
        rw [hix] at o1 ⊢
        have W1 := HW.out.below b1
        have BB1 := HB.out.trans (b1.mono HB.out.size)
        have k1 := c1 a1 ca1 w1 (Y ++ H) (V ++ L) hat1 BB1 W1
        have O1 := hid o1
        have B1 := hid b1
        have HBB1 := hid BB1
        clear o1 b1 hat1 W1 BB1 c1
        go_wp2_with (first
          | (go_at_call 32; refine (iS _).mono ?_; rintro r w2 ⟨rfl, h0⟩; have h0 := h0.symm; subst h0)
          | (go_at_call 44; fail))
        with_reducible refine k1.mono ?_
        rintro r w3 ⟨vp, rfl, P3, W3, K3⟩
        have ne : ∀ k, (Value.slice a1 I.length ca1).ownBlock = some k → ¬ k = g := fun k hk e => by have := O1.out.ge k hk; omega
        obtain ⟨a1', ca1', hv1', hat3, _, _⟩ := Own.atI (O1.out.keep K3 ne)
        rw [hix] at hv1'
        injection hv1' with z1 _ z3
        subst z1 z3
        have BB3 := HBB1.out.trans (keep_below K3 HBB1.out.size (fun k e => by omega))
        have k2 := c2 a1 ca1 w3 H L hat3 BB3 W3
        have HK3 := hid ((Keep.ofBelow (S := fun k => k = g) B1.out).trans K3 (fun _ _ e => e))
        have P3 := hid P3
        have HK13 := hid K3
        clear hat3 W3 K3 BB3 c2 k1
        go_wp2_with (go_at_call 44; fail)
        with_reducible refine k2.mono ?_
        rintro r w4 ⟨vq, rfl, Q4, W4, K4⟩
        have HK4 := HK3.out.trans K4 (fun _ _ e => e)
        obtain ⟨vsP, vsQ, ρ0, C0, lP, lQ⟩ := Cc.start (S0 := fun k => k = g) HK4 HK3.out.size (P3.out.mono B1.out.size) K4 (fun k e => by rw [e]; exact hgl) Q4
        have HW4 := hid W4
        have iN4 := iN
        obtain ⟨aP, cP, eP, _, _⟩ := C0.p.shape
        obtain ⟨aQ, cQ, eQ, _, _⟩ := C0.q.shape
        subst eP
        subst eQ
        obtain ⟨nP, hnP⟩ : ∃ n, vsP.length = n := ⟨_, rfl⟩
        obtain ⟨nQ, hnQ⟩ : ∃ n, vsQ.length = n := ⟨_, rfl⟩
        have C0 := hid C0
        have HnP := hid hnP
        have HnQ := hid hnQ
        have LP := hid (lP.symm.trans hnP)
        have LQ := hid (lQ.symm.trans hnQ)
        have nP256 : nP ≤ 256 := by rw [← LP.out]; exact hnL
        have nQ256 : nQ ≤ 256 := by rw [← LQ.out]; exact hnR
        rw [hnP, hnQ]
        have FL := hid hfL
        have FR := hid hfR
        clear W4 K4 k2 iN Q4 P3 HK3 HK13 HK4 lP lQ hnP hnQ hfL hfR hnL hnR
        go_wp2
        go_loopw [18, 19] (fun vo i w' => ∃ (I' : Nat) (ws : List Value) (ρ : Nat → Nat), I' ≤ nP ∧ i = .int .i64 (I' : Int) ∧ Hid (ws.length = I') ∧ Hid (Cc (fun k => k = g) w (.slice aP vsP.length cP) (.slice aQ vsQ.length cQ) vsP vsQ w' ρ (ws ++ (vsP.drop I' ++ vsQ)) ((psL.take I').map (· ++ [v2']) ++ (psL.drop I' ++ psR)) vo ws) ∧ Hid (∀ k, k < w.heap.size → w'.heap[k]? = w4.heap[k]?)) (fun _ i _ => nP - (intOf i).toNat)
        case atStart => exact ⟨0, [], ρ0, by omega, rfl, rfl, C0, fun _ _ => rfl⟩
        case round =>
          clear C0
          obtain ⟨I', ws, ρ, hI, rfl, hwl, hC, hST⟩ := hrel
          by_cases hlt : I' < nP
          · have c1 : (I' : Int) < (nP : Int) := by omega
            have j0 : (0 : Int) ≤ (I' : Int) := by omega
            have hp1 : I' < vsP.length := by rw [HnP.out]; exact hlt
            have hp2 : I' < psL.length := by rw [LP.out]; exact hlt
            have C1 := hC.out
            obtain ⟨gp, cp, e1, cellp, lp⟩ := C1.p.cell (List.getElem?_eq_getElem hp1)
            rw [List.drop_eq_getElem_cons hp1, List.drop_eq_getElem_cons hp2, List.cons_append, List.cons_append] at C1
            have hlen : ws.length = ((psL.take I').map (· ++ [v2'])).length := by rw [hwl.out, List.length_map, List.length_take]; omega
            obtain ⟨o1, _⟩ := C1.ll.own ws.length vsP[I'] psL[I'] (by rw [List.getElem?_append_right (Nat.le_refl _), Nat.sub_self]; rfl) (by rw [hlen, List.getElem?_append_right (Nat.le_refl _), Nat.sub_self]; rfl)
            obtain ⟨u', w1', hap1, oo1, g1⟩ := append_t12 wr vsP[I'] psL[I'] v2' o1 (by have := FL.out _ (List.getElem_mem hp2); omega)
            obtain ⟨C2, hu2⟩ := C1.grow hlen g1 oo1
            obtain ⟨au, cu, eu, _, _⟩ := oo1.shape
            subst eu
            obtain ⟨vo', w2', hap2, oo2, g2⟩ := append_l12 w1' u18 ws au _ cu C2.oo (by rw [hwl.out]; omega)
            obtain ⟨C3, st3⟩ := C2.push (u' := .slice au (psL[I'].length + 1) cu) g2 oo2
            have ST4 : Hid (∀ k, k < w.heap.size → w2'.heap[k]? = w4.heap[k]?) := fun k hk => (st3 k hk).trans ((hu2 k hk).trans (hST.out k hk))
            have e2 : (psL.take (I' + 1)).map (· ++ [v2']) ++ (psL.drop (I' + 1) ++ psR) = (psL.take I').map (· ++ [v2']) ++ (psL[I'] ++ [v2']) :: (psL.drop (I' + 1) ++ psR) := by
              rw [List.take_succ_eq_append_getElem hp2, List.map_append, List.append_assoc]; rfl
            have e3 : (ws ++ [Value.slice au (psL[I'].length + 1) cu]) ++ (vsP.drop (I' + 1) ++ vsQ) = ws ++ Value.slice au (psL[I'].length + 1) cu :: (vsP.drop (I' + 1) ++ vsQ) := by rw [List.append_assoc]; rfl
            rw [← e2, ← e3] at C3
            have C4 := hid C3
            clear e2 e3
            have l4 : Hid ((ws ++ [Value.slice au (psL[I'].length + 1) cu]).length = I' + 1) := by rw [List.length_append, hwl.out]; exact rfl
            injection e1 with e1 _ e1'
            subst e1
            subst e1'
            generalize vsP[I'] = up at *
            generalize psL[I'].length + 1 = pl at *
            clear C1 C2 C3 hC o1 oo1 g1 oo2 g2 hu2 st3 hST
            go_wp2_with (first
              | (at_builtin; refine Lib.wpList_append_run _ rfl _ _ 23 23 rfl _ _ rfl rfl _ _ hap1 ?_; clear hap1)
              | (at_builtin; refine Lib.wpList_append_run _ rfl _ _ 41 41 rfl _ _ rfl rfl _ _ hap2 ?_; clear hap2))
            exact ⟨⟨I' + 1, _, _, by omega, by go_num, l4, C4, ST4⟩, by simp [intOf]; omega⟩
          · obtain rfl : I' = nP := by omega
            have c1 : ¬ (I' : Int) < (I' : Int) := by omega
            obtain ⟨I2, hI2⟩ : ∃ n, I' = n := ⟨_, rfl⟩
            rw [List.drop_eq_nil_of_le (by rw [HnP.out]; exact Nat.le_refl _), List.nil_append, List.take_of_length_le (by rw [LP.out]; exact Nat.le_refl _), List.drop_eq_nil_of_le (by rw [LP.out]; exact Nat.le_refl _), List.nil_append] at hC
            go_wp2
            subst hI2
            go_loopw [18, 20] (fun vo i w' => ∃ (J : Nat) (ws : List Value) (ρ : Nat → Nat), J ≤ nQ ∧ i = .int .i64 (J : Int) ∧ Hid (ws.length = I' + J) ∧ Hid (Cc (fun k => k = g) w (.slice aP vsP.length cP) (.slice aQ vsQ.length cQ) vsP vsQ w' ρ (ws ++ vsQ.drop J) (psL.map (· ++ [v2']) ++ ((psR.take J).map (· ++ [v1']) ++ psR.drop J)) vo ws) ∧ Hid (∀ k, k < w.heap.size → w'.heap[k]? = w4.heap[k]?)) (fun _ i _ => nQ - (intOf i).toNat)
            case atStart => exact ⟨0, ws, ρ, by omega, rfl, hwl, hC, hST⟩
            case round =>
              clear hC hST hwl
              obtain ⟨I2, hI2⟩ : ∃ n, I' = n := ⟨_, rfl⟩
              rw [hI2] at LP HnP nP256 hrel
              obtain ⟨I', ws, ρ, hI, rfl, hwl, hC, hST⟩ := hrel
              by_cases hlt : I' < nQ
              · have c1 : (I' : Int) < (nQ : Int) := by omega
                have j0 : (0 : Int) ≤ (I' : Int) := by omega
                have hp1 : I' < vsQ.length := by rw [HnQ.out]; exact hlt
                have hp2 : I' < psR.length := by rw [LQ.out]; exact hlt
                have C1 := hC.out
                obtain ⟨gp, cp, e1, cellp, lp⟩ := C1.q.cell (List.getElem?_eq_getElem hp1)
                rw [List.drop_eq_getElem_cons hp1, List.drop_eq_getElem_cons hp2, ← List.append_assoc] at C1
                have hlen : ws.length = (psL.map (· ++ [v2']) ++ (psR.take I').map (· ++ [v1'])).length := by rw [hwl.out, List.length_append, List.length_map, List.length_map, List.length_take, LP.out]; omega
                obtain ⟨o1, _⟩ := C1.ll.own ws.length vsQ[I'] psR[I'] (by rw [List.getElem?_append_right (Nat.le_refl _), Nat.sub_self]; rfl) (by rw [hlen, List.getElem?_append_right (Nat.le_refl _), Nat.sub_self]; rfl)
                obtain ⟨u', w1', hap1, oo1, g1⟩ := append_t12 wr vsQ[I'] psR[I'] v1' o1 (by have := FR.out _ (List.getElem_mem hp2); omega)
                obtain ⟨C2, hu2⟩ := C1.grow hlen g1 oo1
                obtain ⟨au, cu, eu, _, _⟩ := oo1.shape
                subst eu
                obtain ⟨vo', w2', hap2, oo2, g2⟩ := append_l12 w1' u18 ws au _ cu C2.oo (by rw [hwl.out]; omega)
                obtain ⟨C3, st3⟩ := C2.push (u' := .slice au (psR[I'].length + 1) cu) g2 oo2
                have ST4 : Hid (∀ k, k < w.heap.size → w2'.heap[k]? = w4.heap[k]?) := fun k hk => (st3 k hk).trans ((hu2 k hk).trans (hST.out k hk))
                have e2 : psL.map (· ++ [v2']) ++ ((psR.take (I' + 1)).map (· ++ [v1']) ++ psR.drop (I' + 1)) = (psL.map (· ++ [v2']) ++ (psR.take I').map (· ++ [v1'])) ++ (psR[I'] ++ [v1']) :: psR.drop (I' + 1) := by
                  rw [List.take_succ_eq_append_getElem hp2, List.map_append, List.append_assoc, List.append_assoc]; rfl
                have e3 : (ws ++ [Value.slice au (psR[I'].length + 1) cu]) ++ vsQ.drop (I' + 1) = ws ++ Value.slice au (psR[I'].length + 1) cu :: vsQ.drop (I' + 1) := by rw [List.append_assoc]; rfl
                rw [← e2, ← e3] at C3
                have C4 := hid C3
                clear e2 e3
                have l4 : Hid ((ws ++ [Value.slice au (psR[I'].length + 1) cu]).length = I2 + (I' + 1)) := by rw [List.length_append, hwl.out]; exact rfl
                injection e1 with e1 _ e1'
                subst e1
                subst e1'
                generalize vsQ[I'] = up at *
                generalize psR[I'].length + 1 = pl at *
                clear C1 C2 C3 hC o1 oo1 g1 oo2 g2 hu2 st3 hST
                go_wp2_with (first
                  | (at_builtin; refine Lib.wpList_append_run _ rfl _ _ 23 23 rfl _ _ rfl rfl _ _ hap1 ?_; clear hap1)
                  | (at_builtin; refine Lib.wpList_append_run _ rfl _ _ 41 41 rfl _ _ rfl rfl _ _ hap2 ?_; clear hap2))
                refine ⟨?_, by simp [intOf]; omega⟩
                have C5 := C4.out
                rw [List.map_take] at C5
                exact ⟨I' + 1, by omega, by omega, _, l4, _, C5⟩
              · obtain rfl : I' = nQ := by omega
                have c1 : ¬ (I' : Int) < (I' : Int) := by omega
                rw [List.drop_eq_nil_of_le (by rw [HnQ.out]; exact Nat.le_refl _), List.append_nil, List.take_of_length_le (by rw [LQ.out]; exact Nat.le_refl _), List.drop_eq_nil_of_le (by rw [LQ.out]; exact Nat.le_refl _), List.append_nil] at hC
                have DL := hid hC.out.done
                have KP := hid hC.out.kp
                have GG := hST.out g hgl
                have iN5 := iN4 wr
                clear hC hST iN4
                go_wp2_with (go_at_call 61; fail)
                with_reducible refine iN5.mono ?_
                rintro r w5 ⟨rfl, b5⟩
                have DL5 := hid (DL.out.below b5)
                have KP5 := hid (KP.out.trans (Keep.ofBelow (S := fun k => k = g) b5) (fun _ _ e => e))
                have HW5 : Hid (Wk w0 w5 g H L) := by
                  obtain ⟨aH, cH, aL, cL, h, r⟩ := HW4.out
                  exact ⟨aH, cH, aL, cL, (b5.block g (Nat.lt_of_lt_of_le hgl KP.out.size)).trans (GG.trans h), r⟩
                clear GG b5
                go_wp2
                go_ret2
                exact ⟨_, rfl, DL5.out, HW5.out, KP5.out⟩
end Bat
end Go.Proofs.YtbodgecbakcaaaaGreatDoor
