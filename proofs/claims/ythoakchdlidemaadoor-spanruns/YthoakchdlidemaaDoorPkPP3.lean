import Derived.Test.YthoakchdlidemaaDoorPkTL15
import Derived.Lib.AppendZeros
import Derived.Deep.DeepCutAuto
import Derived.Deep.CutRange
/- Layer 14: slices.Grow of nothing, slices.Concat of texts -/
namespace Go.Proofs.YthoakchdlidemaaDoor
open Go.RowKit Go.Shelf
namespace Spn
theorem keep_below14 {w w' : World} {S : Nat → Prop} {B : Nat} (h : Keep S w w') (hB : B ≤ w.heap.size) (hS : ∀ k, S k → B ≤ k) : Below B w w' :=
  ⟨h.os, h.tape, h.output, h.size, fun k hk => h.block k (by omega) fun e => by have := hS k e; omega⟩
theorem infoTx14 : (Tryd.prog.info? 9).map (fun i => (i.zero, i.size, i.bytes)) = some (some (.string ⟨#[]⟩), 1, 16) := by kernel_rfl
theorem grow_fresh {w w' : World} {v v' : Value} {B : Nat} (hG : Grow w w' v v') (hB : B ≤ w.heap.size) (hv : ∀ k, v.ownBlock = some k → B ≤ k) : (∀ k, v'.ownBlock = some k → B ≤ k) ∧ Below B w w' := by
  refine ⟨fun k hk => ?_, ⟨hG.os, hG.tape, hG.output, hG.size, fun k hk => hG.old k (by omega) (fun e => by have := hv k e; omega)⟩⟩
  rcases hG.alt with h | ⟨h, _⟩
  · rw [h] at hk; exact hv k hk
  · have := h k hk; omega
set_option maxRecDepth 100000 in
set_option maxHeartbeats 4000000 in
theorem growT_any (n : Nat) (h0 : 0 < n) (hn : n ≤ 1000000) (w : World) : Calls Tryd.prog 54 #[.slice none 0 0, .int .i64 (n : Int)] w fun r w' => ∃ v, r = .returned v ∧ OwnM 1 w' v 0 [] ∧ (∀ k, v.ownBlock = some k → w.heap.size ≤ k) ∧ Below w.heap.size w w' := by
  obtain ⟨i0, hi, hz0, hz1, hz2⟩ := info_parts infoTx14
  have hap := Go.Lib.run_append_nil_zeros (P := Tryd.prog) w 33 3 33 9 i0 (.string ⟨#[]⟩) .i64 .i64 Tryd.underlying33 Tryd.underlying3 hi hz0 n h0 (by omega) (by omega) (by rw [hz2]; omega)
  have hcap : n ≤ grownCap w n 0 9 := grownCap_ge _ _ _ _
  have hcap2 := grownCap_le_maxLen w n 0 9 (by rw [maxLen]; omega)
  generalize grownCap w n 0 9 = cap at *
  have hrow := heap_alloc_new w.drew (.cells (Builtin.zeroCells (Value.string ⟨#[]⟩).cells n ++ Builtin.zeroCells (Value.string ⟨#[]⟩).cells (cap - n)) 9)
  have hsz : (Builtin.zeroCells (Value.string ⟨#[]⟩).cells n ++ Builtin.zeroCells (Value.string ⟨#[]⟩).cells (cap - n)).size = cap := by
    rw [Array.size_append]
    simp [Builtin.zeroCells, Value.cells]
    omega
  generalize Builtin.zeroCells (Value.string ⟨#[]⟩).cells n ++ Builtin.zeroCells (Value.string ⟨#[]⟩).cells (cap - n) = cs at *
  have HO : Hid (OwnM 1 (w.drew.alloc (.cells cs 9)) (.slice (some ⟨w.heap.size, 0, none⟩) 0 cap) 0 []) :=
    .inr ⟨w.heap.size, cap, rfl, Nat.zero_le _, hcap2, rfl, (fun j v hv => by simp at hv), there_of_row hrow 0 _ (by rw [hsz]; omega), lt_of_heap hrow⟩
  have HB : Hid (Below w.heap.size w (w.drew.alloc (.cells cs 9))) := ((Below.refl w.heap.size w).drew).alloc (Nat.le_refl _) _
  have q0 : ¬ (n : Int) < 0 := by omega
  have q1 : (0 : Int) < (n : Int) := by omega
  have q2 : IntKind.i64.wrap (n : Int) = (n : Int) := by rw [IntKind.wrap_i64]; omega
  have q3 : ¬ cap = 0 := by omega
  clear hi hz0 hz1 hz2 hrow hsz
  go_enter Tryd.func54, Tryd.ntmps54
  go_wp2_with (at_builtin; go_must (refine Lib.wpList_append_run _ rfl _ _ 33 3 rfl _ _ rfl rfl _ _ hap ?_))
  go_ret
  exact ⟨_, rfl, HO.out, (fun k hk => by cases hk; exact Nat.le_refl _), HB.out⟩
theorem flat_take {α : Type} (Ps : List (List α)) {j : Nat} (hj : j < Ps.length) : (Ps.take (j + 1)).flatten = (Ps.take j).flatten ++ Ps[j] := by
  rw [List.take_add_one, List.getElem?_eq_getElem hj, List.flatten_append]; simp
theorem flat_le {α : Type} (Ps : List (List α)) (j : Nat) : (Ps.take j).flatten.length ≤ Ps.flatten.length := by
  have h : Ps.flatten = (Ps.take j).flatten ++ (Ps.drop j).flatten := by rw [← List.flatten_append, List.take_append_drop]
  rw [h, List.length_append]; omega
theorem svs_app (a b : List (List UInt8)) : svs (a ++ b) = svs a ++ svs b := by simp [svs]
theorem src_at {w : World} {a : Option Addr} {L : List (List UInt8)} (hA : At w a L) (c : Nat) : Src Tryd.prog 1 33 (.slice a L.length c) L.length (svs L) w := by
  cases a with
  | none =>
    have hL : L = [] := by
      cases L with
      | nil => rfl
      | cons x L =>
        obtain ⟨y, hy, _⟩ := hA 0 x rfl
        cases hy
    subst hL
    exact Src.ofNil w Tryd.underlying33 c
  | some x =>
    exact Src.ofSlice w Tryd.underlying33 x L.length c (svs L) (by rw [svs_length, Nat.mul_one]) (fun j u hj => by
      simp only [svs, List.getElem?_map, Option.map_eq_some_iff] at hj
      obtain ⟨p, hp, rfl⟩ := hj
      obtain ⟨y, hy, _, hc⟩ := hA j p hp
      obtain rfl := Option.some.inj hy
      exact hc) (fun u hu => by obtain ⟨p, _, rfl⟩ := List.mem_map.1 hu; rfl)
/-- append(l, x...) of texts -/
theorem append_txs (w : World) (v : Value) (l : List (List UInt8)) (a : Option Addr) (c : Nat) (L : List (List UInt8)) (h : OwnM 1 w v l.length (svs l)) (hA : At w a L) (hl : l.length + L.length ≤ 8000000000000) :
    ∃ v' w', (Builtin.append_ #[33, 33] 33 #[v, .slice a L.length c]).run Tryd.prog w = .ok v' w' ∧ OwnM 1 w' v' (l ++ L).length (svs (l ++ L)) ∧ Grow w w' v v' := by
  obtain ⟨i0, hi, hz0, hz1, hz2⟩ := info_parts infoTx14
  by_cases hz : v = .slice none 0 0 ∧ L.length = 0
  · obtain ⟨rfl, hm0⟩ := hz
    have hl0 : l.length = 0 := by
      rcases h with ⟨_, h, _⟩ | ⟨g, cap, h, _⟩
      · exact h
      · cases h
    obtain rfl : l = [] := List.length_eq_zero_iff.1 hl0
    obtain rfl : L = [] := List.length_eq_zero_iff.1 hm0
    refine ⟨.slice none 0 0, w, ?_, OwnM.nil 1 w, ⟨rfl, rfl, rfl, Nat.le_refl _, fun _ _ _ => rfl, .inl rfl⟩⟩
    cases a with
    | none => kernel_rfl
    | some x => kernel_rfl
  · obtain ⟨v', w', a1, a2, a3⟩ := run_append_M (P := Tryd.prog) w 33 33 33 9 i0 (.string ⟨#[]⟩) Tryd.underlying33 hi hz0 hz1 rfl v l.length (svs l) h _ L.length (svs L) (src_at hA c) (by rw [hz2]; omega) (by rw [maxLen]; omega) (fun e => by
      rcases Nat.eq_zero_or_pos L.length with h | h
      · exact absurd ⟨e, h⟩ hz
      · exact h)
    exact ⟨v', w', a1, by rw [List.length_append, svs_app]; exact a2, a3⟩
set_option maxRecDepth 100000 in
set_option maxHeartbeats 4000000 in
/-- slices.Concat -/
theorem concat14_any (g : Nat) (Ps : List (List (List UInt8))) (aa : Nat → Option Addr) (cc : Nat → Nat) (w : World) (hg : g < w.heap.size) (hc : ∀ j P, Ps[j]? = some P → w.cell? ⟨g, j, none⟩ = some (.slice (aa j) P.length (cc j)) ∧ At w (aa j) P) (hl : Ps.flatten.length ≤ 100000) (h0 : 0 < Ps.flatten.length) (hn : Ps.length ≤ 100) :
    Calls Tryd.prog 29 #[.slice (some ⟨g, 0, none⟩) Ps.length Ps.length] w fun r w' => ∃ v, r = .returned v ∧ OwnM 1 w' v Ps.flatten.length (svs Ps.flatten) ∧ (∀ k, v.ownBlock = some k → w.heap.size ≤ k) ∧ Below w.heap.size w w' := by
  have HC := hid hc
  obtain ⟨m, hm⟩ : ∃ m, Ps.length = m := ⟨_, rfl⟩
  have Hm := hid hm
  obtain ⟨N, hN⟩ : ∃ N, Ps.flatten.length = N := ⟨_, rfl⟩
  have HN := hid hN
  rw [hm] at hn ⊢
  rw [hN] at hl h0 ⊢
  have iG := growT_any N h0 (by omega) w
  clear hc hm hN
  go_enter Tryd.func29, Tryd.ntmps29
  go_wp2
  go_loopw [3, 5, 11] (fun sz _ i w' => ∃ j T : Nat, j ≤ m ∧ i = .int .i64 (j : Int) ∧ sz = .int .i64 (T : Int) ∧ Hid ((Ps.take j).flatten.length = T) ∧ w' = w) (fun _ _ i _ => m - (intOf i).toNat)
  case atStart => exact ⟨0, 0, by omega, rfl, rfl, rfl, rfl⟩
  case round =>
    obtain ⟨j, T, hj, rfl, rfl, hT, hw⟩ := hrel
    have hw := hw.symm
    subst hw
    by_cases hjm : j < m
    · have b0 : (j : Int) < (m : Int) := by omega
      have j0 : (0 : Int) ≤ (j : Int) := by omega
      have hjP : j < Ps.length := by rw [Hm.out]; exact hjm
      have hcell := (HC.out j Ps[j] (List.getElem?_eq_getElem hjP)).1
      have hnx : (Ps.take (j + 1)).flatten.length = T + Ps[j].length := by rw [flat_take Ps hjP, List.length_append, hT.out]
      have hle := flat_le Ps (j + 1)
      rw [hnx, HN.out] at hle
      have HX := hid hnx
      generalize Ps[j].length = p at *
      have w1 : IntKind.i64.wrap ((T : Int) + (p : Int)) = ((T + p : Nat) : Int) := by rw [IntKind.wrap_i64]; omega
      have w2 : ¬ (T : Int) + (p : Int) < 0 := by omega
      clear hnx
      go_wp2
      exact ⟨⟨j + 1, T + p, by omega, by go_num, by go_num, HX, trivial⟩, by simp [intOf]; omega⟩
    · obtain rfl : j = m := by omega
      have b0 : ¬ (j : Int) < (j : Int) := by omega
      obtain rfl : T = N := by rw [← hT.out, ← HN.out, ← Hm.out, List.take_length]
      go_wp2_with (go_at_call 54; fail)
      refine iG.mono ?_
      rintro r w1 ⟨v1, rfl, o1, f1, b1⟩
      have O1 := hid o1
      have F1 := hid f1
      have B1 := hid b1
      clear iG o1 f1 b1 hT
      go_wp2
      go_loopw [6, 8, 27] (fun v _ i w' => ∃ k : Nat, k ≤ j ∧ i = .int .i64 (k : Int) ∧ Hid (OwnM 1 w' v (Ps.take k).flatten.length (svs (Ps.take k).flatten)) ∧ Hid (∀ b, v.ownBlock = some b → w.heap.size ≤ b) ∧ Hid (Below w.heap.size w w')) (fun _ _ i _ => j - (intOf i).toNat)
      case atStart => exact ⟨0, by omega, rfl, O1, F1, B1⟩
      case round =>
        clear O1 F1 B1
        obtain ⟨k, hk, rfl, hO, hF, hB⟩ := hrel
        by_cases hkm : k < j
        · have d0 : (k : Int) < (j : Int) := by omega
          have d1 : (0 : Int) ≤ (k : Int) := by omega
          have hkP : k < Ps.length := by rw [Hm.out]; exact hkm
          obtain ⟨hcell, hAt⟩ := HC.out k Ps[k] (List.getElem?_eq_getElem hkP)
          have hcell := (hB.out.cell (p := ⟨g, k, none⟩) hg).trans hcell
          have hnx := flat_take Ps hkP
          have hle := flat_le Ps (k + 1)
          rw [HN.out, hnx, List.length_append] at hle
          obtain ⟨v2, w2, hap, o2, G2⟩ := append_txs wr _ _ (aa k) (cc k) Ps[k] hO.out (hAt.below hB.out (Nat.le_refl _)) (by omega)
          obtain ⟨f2, b2⟩ := grow_fresh G2 hB.out.size hF.out
          rw [← hnx] at o2
          have HO2 := hid o2
          have HF2 := hid f2
          have HB2 := hid (hB.out.trans b2)
          generalize Ps[k] = P at *
          clear o2 f2 b2 G2 hAt hnx hle hO hF hB
          go_wp2_with (at_builtin; go_must (refine Lib.wpList_append_run _ rfl _ _ 33 33 rfl _ _ rfl rfl _ _ hap ?_))
          exact ⟨⟨k + 1, by omega, by go_num, HO2, HF2, HB2⟩, by simp [intOf]; omega⟩
        · obtain rfl : k = j := by omega
          have d0 : ¬ (k : Int) < (k : Int) := by omega
          have hOO := hO.out
          rw [← Hm.out, List.take_length, HN.out] at hOO
          have HOO := hid hOO
          go_wp2
          go_ret
          exact ⟨_, rfl, HOO.out, hF.out, hB.out⟩
end Spn
end Go.Proofs.YthoakchdlidemaaDoor

/- Layer 14, the program: Root -/
namespace Go.Proofs.YthoakchdlidemaaDoor
open Go.RowKit Go.Shelf
namespace Spn
/-- a run's value, and its variable -/
abbrev rn (n x y : Int) (v : Value) : Value := .agg #[.int .i64 n, .int .i64 x, .int .i64 y, v]
def RnI (w : World) (g : Nat) (n x y : Int) (v : Value) : Prop := w.heap[g]? = some (.cells #[.int .i64 n, .int .i64 x, .int .i64 y, v] 35 (0, 0))
theorem RnI.c0 {w : World} {g : Nat} {n x y : Int} {v : Value} (h : RnI w g n x y v) : w.cell? ⟨g, 0, none⟩ = some (.int .i64 n) := by rw [cell_of_row w g 0 _ _ _ h]; rfl
theorem RnI.c1 {w : World} {g : Nat} {n x y : Int} {v : Value} (h : RnI w g n x y v) : w.cell? ⟨g, 1, none⟩ = some (.int .i64 x) := by rw [cell_of_row w g 1 _ _ _ h]; rfl
theorem RnI.c2 {w : World} {g : Nat} {n x y : Int} {v : Value} (h : RnI w g n x y v) : w.cell? ⟨g, 2, none⟩ = some (.int .i64 y) := by rw [cell_of_row w g 2 _ _ _ h]; rfl
theorem RnI.c3 {w : World} {g : Nat} {n x y : Int} {v : Value} (h : RnI w g n x y v) : w.cell? ⟨g, 3, none⟩ = some v := by rw [cell_of_row w g 3 _ _ _ h]; rfl
theorem RnI.new (w : World) (n x y : Int) (v : Value) : RnI (w.alloc (.cells #[.int .i64 n, .int .i64 x, .int .i64 y, v] 35)) w.heap.size n x y v := heap_alloc_new w _
theorem RnI.below {w w' : World} {g : Nat} {n x y : Int} {v : Value} (h : RnI w g n x y v) (hb : Below w.heap.size w w') : RnI w' g n x y v := (hb.block g (lt_of_heap h)).trans h
theorem RnI.keep {w w' : World} {g : Nat} {n x y : Int} {v : Value} {S : Nat → Prop} (h : RnI w g n x y v) (hb : Keep S w w') (hs : ¬ S g) : RnI w' g n x y v := (hb.block g (lt_of_heap h) hs).trans h
theorem RnI.drew {w : World} {g : Nat} {n x y : Int} {v : Value} (h : RnI w g n x y v) : RnI w.drew g n x y v := h
theorem cmp_hs {L : List (List UInt8)} (s : Nat) (h : hsB8 L = true) : hsB8 (Cut.cmp L s) = true := by
  have hs : Tree.Hs L := fun x hx => by
    have := List.all_eq_true.1 h x hx
    simpa using this
  unfold hsB8
  rw [List.all_eq_true]
  intro t ht
  unfold Cut.cmp at ht
  obtain ⟨q, _, rfl⟩ := List.mem_map.1 ht
  unfold Cut.lh
  rw [Tree.root_hash ((hs.drop _).take _)]
  rfl
theorem Keep.al {S : Nat → Prop} {w w' : World} (h : Keep S w w') (ob : Obj) : Keep S w (w'.alloc ob) := h.trans (Keep.ofBelow (S := S) ((Below.refl w'.heap.size w').alloc (Nat.le_refl _) ob)) fun _ _ e => e
theorem Keep.bl {S : Nat → Prop} {w w' w'' : World} (h : Keep S w w') (hb : Below w'.heap.size w' w'') : Keep S w w'' := h.trans (Keep.ofBelow (S := S) hb) fun _ _ e => e
theorem ownM_own1 {w : World} {B : Nat} {v : Value} {cs : List Value} (h : Own w B v cs) : OwnM 1 w v cs.length cs := by
  rcases h with ⟨rfl, rfl⟩ | ⟨g, cap, rfl, _, h1, h2, h3, h4, h5⟩
  · exact OwnM.nil 1 w
  · exact .inr ⟨g, cap, rfl, h1, h2, by rw [Nat.mul_one], h3, by rw [Nat.mul_one]; exact h4, h5⟩
theorem ownM_at {w : World} {v : Value} {L : List (List UInt8)} (h : OwnM 1 w v L.length (svs L)) : ∃ a c, v = .slice a L.length c ∧ At w a L ∧ L.length ≤ c ∧ c ≤ 9223372036854775807 := by
  rcases h with ⟨rfl, h1, h2⟩ | ⟨g, cap, rfl, h1, h2, h3, h4, h5, h6⟩
  · have : L = [] := List.length_eq_zero_iff.1 h1
    subst this
    exact ⟨none, 0, rfl, At.nil _ _, Nat.le_refl _, by omega⟩
  · refine ⟨some ⟨g, 0, none⟩, cap, rfl, fun j p hp => ⟨_, rfl, h6, ?_⟩, h1, by rw [maxLen] at h2; exact h2⟩
    rw [Addr.add_mid]
    exact h4 j (sv p) (by simp [svs, hp])
theorem At.keep14 {w w' : World} {a : Option Addr} {L : List (List UInt8)} {S : Nat → Prop} (h : At w a L) (hk : Keep S w w') (hd : ∀ x, a = some x → ¬ S x.block) : At w' a L := fun j p hp => by
  obtain ⟨x, rfl, h1, h2⟩ := h j p hp
  refine ⟨x, rfl, Nat.lt_of_lt_of_le h1 hk.size, ?_⟩
  rw [World.cell?_of_block (w := w) (by rw [addr_block]; exact hk.block x.block h1 (hd x rfl))]
  exact h2
theorem grow_keepS {w w' : World} {v v' : Value} (h : Grow w w' v v') : Keep (fun k => v.ownBlock = some k) w w' := ⟨h.os, h.tape, h.output, h.size, h.old⟩
set_option maxRecDepth 100000 in
set_option maxHeartbeats 8000000 in
theorem root14_ok (n s e : Nat) (H L : List (List UInt8)) (val : Nat × Nat → List UInt8) (V : Val (rix s e) n H L val) (hse : s < e) (hen : e ≤ n) (hn : n ≤ 1099511627776) (hL : L.length = e - s) (hL4 : L.length ≤ 4096) (h8 : hsB8 H = true) (l8 : hsB8 L = true)
    (aH aL : Option Addr) (cH cL : Nat) (w : World) (hAH : At w aH H) (hAL : At w aL L) (Z : Tb w) :
    Calls Tryd.prog 9 #[rn (n : Int) (s : Int) (e : Int) (.slice aH H.length cH), .slice aL L.length cL] w fun r w' => r = .returned (.tuple #[sv (val (0, n)), .int .i64 0]) ∧ Below w.heap.size w w' := by
  have hF := fold_run V hse hen hn hL h8 (cmp_hs s l8)
  have hHl : H.length = (Tree.runF n 0 n s e).length := by rw [val_told V hse (by omega), List.length_map]
  have hT81 := told_len (n := n) (s := s) (e := e) (by omega) hn
  have hC81 := csp_len (b := s) (e := e) (by omega) (by omega)
  have hCp : 0 < (csp s e).length := by
    rw [csp, List.length_map, Cut.cut_cons (by omega) hse]; simp
  have hcl : (Cut.cmp L s).length = (csp s e).length := by rw [cmp_val V hse (by omega) hL, List.length_map]
  have hcE : cmpE (s : Int) L = 0 := by
    unfold cmpE
    rw [if_pos ⟨by omega, by omega, hL4⟩, if_pos (by omega), if_pos (show hsB L = true from l8)]
  obtain ⟨m, hm⟩ : ∃ m, L.length = m := ⟨_, rfl⟩
  obtain ⟨T, hTl⟩ : ∃ T, (Tree.runF n 0 n s e).length = T := ⟨_, rfl⟩
  have hT81' : T ≤ 81 := by rw [← hTl]; exact hT81
  have i2 := fun w' => told14_any n s e hse hen hn w'
  have i3 := fun w' hA => areHashes14_is H true h8 aH cH w' (by omega) hA
  have i4 := fun w' hA hT' => Compact_any (s : Int) L aL cL w' (by omega) (by omega) (by omega) hA hT'
  have i5 := fun w' hZ => complete14_any s e (by omega) (by omega) w' hZ
  rw [hcE, Int.toNat_natCast] at i4
  have W1 := RnI.new w (n : Int) (s : Int) (e : Int) (.slice aH H.length cH)
  have b1 := (Below.refl w.heap.size w).alloc (Nat.le_refl _) (.cells #[.int .i64 (n : Int), .int .i64 (s : Int), .int .i64 (e : Int), .slice aH H.length cH] 35)
  have b2' := (Below.refl _ (w.alloc (.cells #[.int .i64 (n : Int), .int .i64 (s : Int), .int .i64 (e : Int), .slice aH H.length cH] 35))).alloc (Nat.le_refl _) (.cells #[.int .i64 (s : Int), .int .i64 (e : Int)] 29)
  have S2 := SpI.new (w.alloc (.cells #[.int .i64 (n : Int), .int .i64 (s : Int), .int .i64 (e : Int), .slice aH H.length cH] 35)) (s : Int) (e : Int)
  rw [size_alloc] at S2
  have W2 := W1.below b2'
  have b2 := b1.trans (b2'.mono b1.size)
  have k1 := W1.c1
  have k2 := W1.c2
  have l0 := W2.c0
  have l1 := S2.c0
  have l2 := S2.c1
  have i1 := fun w' => isRun_is (n : Int) (s : Int) (e : Int) true (by simp [runB]; omega) w'
  have q0 : ¬ (1099511627776 : Int) < (n : Int) := by omega
  have hsub : IntKind.i64.wrap ((e : Int) - (s : Int)) = (m : Int) := by rw [IntKind.wrap_i64]; omega
  have HW := hid W2
  have HS := hid S2
  have HB := hid b2
  have HZ := hid Z
  have hZl := Z.lt
  have HAH := hid hAH
  have HAL := hid hAL
  have HF := hid hF
  have HHl := hid hHl
  have Hm := hid hm
  have HTl := hid hTl
  have Hcl := hid hcl
  rw [hHl, hTl] at W1 k1 k2 l0 l1 l2 HW HS HB i3 ⊢
  rw [hm] at i4 ⊢
  clear V hse hen hn hL hL4 h8 l8 hAH hAL Z hF W1 b1 b2' S2 W2 b2 hcE hHl hm hTl hcl
  go_enter Tryd.func9, Tryd.ntmps9
  go_wp2_with (go_at_call 25; fail)
  clear k1 k2 l0 l1 l2
  generalize (w.alloc (.cells #[.int .i64 (n : Int), .int .i64 (s : Int), .int .i64 (e : Int), .slice aH T cH] 35)).alloc (.cells #[.int .i64 (s : Int), .int .i64 (e : Int)] 29) = w2 at *
  refine (i1 _).mono ?_
  rintro r w3 ⟨rfl, b3⟩
  have W3 := hid (HW.out.below b3)
  have S3 := hid (HS.out.below b3)
  have B3 := hid (HB.out.trans (b3.mono HB.out.size))
  have l0 := W3.out.c0
  have l1 := S3.out.c0
  have l2 := S3.out.c1
  clear i1 b3 HW HS HB
  go_wp2_with (go_at_call 26; fail)
  clear l0 l1 l2
  refine (i2 _).mono ?_
  rintro r w4 ⟨v4, rfl, o4, f4, b4⟩
  obtain ⟨a4, c4, rfl, p1, p2⟩ := OwnM.shape o4
  rw [HTl.out]
  have W4 := hid (W3.out.below b4)
  have S4 := hid (S3.out.below b4)
  have B4 := hid (B3.out.trans (b4.mono B3.out.size))
  have O4 := hid o4
  have F4 : Hid (∀ k, (Value.slice a4 T c4).ownBlock = some k → w.heap.size + 1 + 1 ≤ k) := fun k hk => by
    have h5 := lt_of_heap S3.out
    have := f4 k (by rw [HTl.out]; exact hk)
    omega
  unfold Hid at O4
  rw [HTl.out] at O4
  have O4 := hid O4
  have V4 : Hid (∀ k, (Value.slice a4 T c4).ownBlock = some k → k < w4.heap.size) := fun k hk => by
    rcases O4.out with ⟨h, _⟩ | ⟨g, cap, h, _, _, _, _, _, h6⟩
    · rw [h] at hk; cases hk
    · rw [h] at hk
      cases hk
      exact h6
  have l0 := W4.out.c3
  have l1 := S4.out.c0
  have l2 := S4.out.c1
  have i3' := i3 w4 (HAH.out.below B4.out (Nat.le_refl _))
  clear i2 i3 b4 o4 f4 W3 S3 B3
  go_wp2_with (go_at_call 27; (with_reducible refine i3'.mono ?_); rintro r w5 ⟨rfl, h0⟩; have h0 := h0.symm; subst h0)
  have i4' := i4 w4 (HAL.out.below B4.out (Nat.le_refl _)) (HZ.out.below B4.out hZl).t
  have l1 := S4.out.c0
  clear i4 i3'
  go_wp2_with (go_at_call 10; fail)
  with_reducible refine i4'.mono ?_
  rintro r w6 ⟨b6, hr6⟩
  rw [if_pos rfl] at hr6
  obtain ⟨v6, rfl, o6⟩ := hr6
  obtain ⟨a6, c6, hv6, hat6, hc6, hcm6⟩ := Own.at o6
  subst hv6
  have V6 : Hid (∀ x, a6 = some x → w4.heap.size ≤ x.block) := fun x hx => by
    rcases o6 with ⟨h, _⟩ | ⟨g, cap, h, hb, _⟩
    · injection h with h; rw [h] at hx; cases hx
    · injection h with h
      rw [h] at hx
      cases hx
      exact hb
  have Z46 := hid b6.size
  have W6 := W4.out.below b6
  have S6 := S4.out.below b6
  have O6 := O4.out.below b6
  have B6 := B4.out.trans (b6.mono B4.out.size)
  have bR := (Below.refl w6.heap.size w6).alloc (Nat.le_refl _) (.cells #[.int .i64 (s : Int), .int .i64 ((s : Int) + (m : Int)), .slice a6 (Cut.cmp L s).length c6] 40)
  have R7 := hid (Rg.new w6 (s : Int) ((s : Int) + (m : Int)) (.slice a6 (Cut.cmp L s).length c6))
  have W7 := hid (W6.below bR)
  have S7 := hid (S6.below bR)
  have O7 := hid (O6.below bR)
  have B7 := hid (B6.trans (bR.mono B6.size))
  have A7 := hid (hat6.below bR (Nat.le_refl _))
  clear i4' b6 o6 hat6 W6 S6 O6 B6 bR W4 S4 O4 B4 l0 l1 l2
  go_upto_region 10 with fail
  generalize hG : w6.alloc (.cells #[.int .i64 (s : Int), .int .i64 ((s : Int) + (m : Int)), .slice a6 (Cut.cmp L s).length c6] 40) = w7 at *
  have z7 : w6.heap.size < w7.heap.size := lt_of_heap R7.out
  have hv4 : ∀ k, (Value.slice a4 T c4).ownBlock = some k → w.heap.size + 1 + 1 ≤ k ∧ k < w6.heap.size := fun k hk => ⟨F4.out k hk, Nat.lt_of_lt_of_le (V4.out k hk) Z46.out⟩
  have HV4 := hid hv4
  have mkS : ∀ W, Keep (fun k => (Value.slice a4 T c4).ownBlock = some k) w7 W → W.cell? ⟨w.heap.size + 1, 0, none⟩ = some (.int .i64 (s : Int)) ∧ W.cell? ⟨w.heap.size + 1, 1, none⟩ = some (.int .i64 (e : Int)) ∧ W.cell? ⟨w.heap.size, 3, none⟩ = some (.slice aH T cH) ∧ W.cell? ⟨w6.heap.size, 2, none⟩ = some (.slice a6 (Cut.cmp L s).length c6) := fun W hk => by
    have p1 := (S7.out.keep hk (fun h => by have := HV4.out _ h; omega))
    have p2 := (W7.out.keep hk (fun h => by have := HV4.out _ h; omega))
    have p3 : Rg W w6.heap.size (s : Int) ((s : Int) + (m : Int)) (.slice a6 (Cut.cmp L s).length c6) := (hk.block w6.heap.size z7 (fun h => by have := HV4.out _ h; omega)).trans R7.out
    exact ⟨p1.c0, p1.c1, p2.c3, p3.c2⟩
  have aC := fun W (hb : Below w7.heap.size w7 W) => i5 W (HZ.out.below (B7.out.trans (hb.mono B7.out.size)) hZl)
  have hflat : ([H, Cut.cmp L s] : List (List (List UInt8))).flatten = H ++ Cut.cmp L s := by simp
  have hfl : ([H, Cut.cmp L s] : List (List (List UInt8))).flatten.length = T + (Cut.cmp L s).length := by rw [hflat, List.length_append, HHl.out, HTl.out]
  have kk : ∀ W g, Keep (fun k => (Value.slice a4 T c4).ownBlock = some k) w7 W → W.heap[g]? = some (.cells #[.slice aH T cH, .slice a6 (Cut.cmp L s).length c6] 33 (0, 0)) →
      Calls Tryd.prog 29 #[.slice (some ⟨g, 0, none⟩) 2 2] W fun r w' => ∃ v, r = .returned v ∧ OwnM 1 w' v (H ++ Cut.cmp L s).length (svs (H ++ Cut.cmp L s)) ∧ Below W.heap.size W w' := fun W g hk hrow => by
    have hbw : Below w.heap.size w W := B7.out.trans (keep_below14 hk B7.out.size (fun k h => by have := HV4.out k h; omega))
    have h1 : At W aH H := HAH.out.below hbw (Nat.le_refl _)
    have h2 : At W a6 (Cut.cmp L s) := At.keep14 A7.out hk (fun x hx h => by have := HV4.out _ h; have := V6.out x hx; have := V4.out _ h; omega)
    have := concat14_any g [H, Cut.cmp L s] (fun j => if j = 0 then aH else a6) (fun j => if j = 0 then cH else c6) W (lt_of_heap hrow) (fun j P hP => by
      match j, hP with
      | 0, hP => simp at hP; subst hP; exact ⟨by rw [cell_of_row _ _ _ _ _ _ hrow, ← HTl.out, ← HHl.out]; rfl, h1⟩
      | 1, hP => simp at hP; subst hP; exact ⟨by rw [cell_of_row _ _ _ _ _ _ hrow]; rfl, h2⟩
      | j + 2, hP => simp at hP) (by rw [hfl, Hcl.out]; omega) (by rw [hfl, Hcl.out]; omega) (by simp)
    rw [hflat] at this
    exact this.mono fun r w' ⟨v, e1, e2, _, e4⟩ => ⟨v, e1, e2, e4⟩
  have hTT : (Tree.runF n 0 n s e).length ≤ 1099511627776 := by omega
  have hCC : (csp s e).length ≤ 1099511627776 := by omega
  have D0 : Below w7.heap.size w7 w7.drew := (Below.refl w7.heap.size w7).drew
  have D0a := ((Below.refl w7.heap.size w7).alloc (Nat.le_refl _) (.cells #[.slice aH T cH, .slice a6 (Cut.cmp L s).length c6] 33)).drew
  have e0 := mkS _ (Keep.ofBelow D0)
  have e0a := mkS _ (Keep.ofBelow D0a)
  have rB0 : (w7.alloc (.cells #[.slice aH T cH, .slice a6 (Cut.cmp L s).length c6] 33)).drew.heap[w7.heap.size]? = _ := heap_alloc_new w7 (.cells #[.slice aH T cH, .slice a6 (Cut.cmp L s).length c6] 33)
  generalize Tree.runF n 0 n s e = TS at *
  generalize csp s e = CS at *
  generalize hCM : Cut.cmp L s = CM at *
  generalize hq : CM.length = q at *
  have Hq := hid hq
  clear hq
  go_cut [10, 11] (fun v10 v11 w' => Hid (OwnP w' v10 (TS ++ CS)) ∧ Hid (OwnM 1 w' v11 (H ++ CM).length (svs (H ++ CM))) ∧ Hid (Keep (fun k => (Value.slice a4 T c4).ownBlock = some k) w7 w'))
  case first =>
    go_region_held3 (fun W => W.cell? ⟨w.heap.size + 1, 0, none⟩ = some (.int .i64 (s : Int)) ∧ W.cell? ⟨w.heap.size + 1, 1, none⟩ = some (.int .i64 (e : Int)) ∧ W.cell? ⟨w.heap.size, 3, none⟩ = some (.slice aH T cH) ∧ W.cell? ⟨w6.heap.size, 2, none⟩ = some (.slice a6 q c6)) (first | exact e0 | exact e0a | exact eC | exact eCa | exact eA | exact eAa | exact eB | exact eK)
      (first
        | (go_at_call 28; ((first
            | ((with_reducible refine (aC _ D0).mono ?_); rintro r wC ⟨vC, rfl, oC, fC, bC⟩; have DC := D0.trans (bC.mono D0.size))
            | ((with_reducible refine (aC _ D0a).mono ?_); rintro r wC ⟨vC, rfl, oC, fC, bC⟩; have DC := D0a.trans (bC.mono D0a.size); have rC := (bC.block _ (lt_of_heap rB0)).trans rB0)); (try (have rC' := rC)); have DCa := DC.alloc DC.size (.cells #[.slice aH T cH, .slice a6 q c6] 33); have eC := mkS _ (Keep.ofBelow DC); have eCa := mkS _ (Keep.ofBelow DCa); obtain ⟨vA, wA, hapA, oA, GA⟩ := append_spl14 wC _ vC _ _ (O7.out.below DC) oC hTT hCC; have MA := (Keep.ofBelow DC).trans (grow_keepS GA) (fun _ _ e => e); have eA := mkS _ MA; (try (have rA := (GA.old w7.heap.size (by have := lt_of_heap rC; exact this) (fun h => by have := HV4.out _ h; omega)).trans rC)); have eAa := mkS _ (Keep.al MA (.cells #[.slice aH T cH, .slice a6 q c6] 33)); obtain ⟨vB, wB, hapB, oB, GB⟩ := append_spl14 (wC.alloc (.cells #[.slice aH T cH, .slice a6 q c6] 33)) _ vC _ _ (O7.out.below DCa) (oC.below ((Below.refl _ wC).alloc (Nat.le_refl _) _)) hTT hCC; have MB := (Keep.ofBelow DCa).trans (grow_keepS GB) (fun _ _ e => e); have eB := mkS _ MB; have rB := (GB.old wC.heap.size (by rw [size_alloc]; omega) (fun h => by have := HV4.out _ h; have := DC.size; omega)).trans (heap_alloc_new wC (.cells #[.slice aH T cH, .slice a6 q c6] 33))))
        | (refine step_append_run rfl _ _ 24 rfl _ _ _ wA rfl rfl hapA ?_)
        | (refine step_append_run rfl _ _ 24 rfl _ _ _ wB rfl rfl hapB ?_)
        | (go_at_call 29; (first
            | ((with_reducible refine (kk (wA.alloc (.cells #[.slice aH T cH, .slice a6 q c6] 33)) _ (Keep.al MA _) (heap_alloc_new wA _)).mono ?_); rintro r wK ⟨vK, rfl, oK, bK⟩; have MK := Keep.bl (Keep.al MA (.cells #[.slice aH T cH, .slice a6 q c6] 33)) bK; have eK := mkS _ MK; have oAK := (oA.below ((Below.refl _ wA).alloc (Nat.le_refl _) (.cells #[.slice aH T cH, .slice a6 q c6] 33))).below bK)
            | ((with_reducible refine (kk wB _ MB rB).mono ?_); rintro r wK ⟨vK, rfl, oK, bK⟩; have MK := Keep.bl MB bK; have eK := mkS _ MK; have oAK := oB.below bK)
            | ((with_reducible refine (kk wA _ MA rA).mono ?_); rintro r wK ⟨vK, rfl, oK, bK⟩; have MK := Keep.bl MA bK; have eK := mkS _ MK; have oAK := oA.below bK))))
    all_goals
      have P1 := hid oAK
      have P2 := hid oK
      have P3 := hid MK
      clear mkS kk
      go_wp2_with fail
      go_meet
      exact ⟨P1, P2, P3⟩
  case rest =>
    obtain ⟨P1, P2, P3⟩ := hcut
    rename_i t10 t11
    obtain ⟨a10, c10, rfl, p1, p2⟩ := OwnM.shape P1.out
    obtain ⟨a11, c11, hv11, hat11, _, _⟩ := ownM_at P2.out
    subst hv11
    have B8 := B7.out.trans (keep_below14 P3.out B7.out.size (fun k h => by have := HV4.out k h; omega))
    have W8 := W7.out.keep P3.out (fun h => by have := HV4.out _ h; omega)
    have l0 := W8.c0
    have e1 := P1.out.atP
    have i6 := foldF_any (n : Int) (pmI (TS ++ CS)) (H ++ CM) 0 (n : Int) a10 a11 c10 c11 wc (by unfold pmI; rw [List.length_map, List.length_append]; omega) (by rw [List.length_append, HHl.out, HTl.out, Hq.out, Hcl.out]; omega) e1 hat11 (HZ.out.below B8 hZl).t
    rw [HF.out] at i6
    rw [show (pmI (TS ++ CS)).length = TS.length + CS.length by simp [pmI], List.length_append] at i6
    have HB8 := hid B8
    clear mkS kk aC i5 e0 e0a e1 hat11 B8
    go_wp2_with (go_at_call 12; fail)
    with_reducible refine i6.mono ?_
    rintro r w9 ⟨rfl, b9⟩
    have B9 := hid (HB8.out.trans (b9.mono HB8.out.size))
    go_wp2
    go_ret2
    exact ⟨rfl, B9.out⟩
end Spn
end Go.Proofs.YthoakchdlidemaaDoor
