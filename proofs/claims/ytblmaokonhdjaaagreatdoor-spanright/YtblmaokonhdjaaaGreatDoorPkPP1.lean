import Derived.Test.YtblmaokonhdjaaaGreatDoorPkPM2
import Derived.Test.YtblmaokonhdjaaaGreatDoorPkFN6
import Derived.Test.YtblmaokonhdjaaaGreatDoorPkTL15
import Derived.Lib.AppendZeros
/- Layer 14, the program: isRun, told, areHashes -/
namespace Go.Proofs.YtblmaokonhdjaaaGreatDoor
open Go.RowKit Go.Shelf
namespace Spn
theorem append_spl14 (w : World) (v1 v2 : Value) (l m : List (Nat × Nat)) (h1 : OwnP w v1 l) (h2 : OwnP w v2 m) (hl : l.length ≤ 1099511627776) (hm : m.length ≤ 1099511627776) :
    ∃ v' w', (Builtin.append_ #[75, 75] 75 #[v1, v2]).run Tryz.prog w = .ok v' w' ∧ OwnP w' v' (l ++ m) ∧ Grow w w' v1 v' := by
  obtain ⟨i0, hi, hz0, hz1, hz2⟩ := info_parts infoSp8
  have one : ∀ u ∈ prs m, u.oneCell' = true := fun u hu => by
    simp only [prs, List.mem_flatMap, List.mem_cons, List.not_mem_nil, or_false] at hu
    obtain ⟨q, _, rfl | rfl⟩ := hu <;> rfl
  have hsrc : Src Tryz.prog 2 75 v2 m.length (prs m) w := by
    rcases h2 with ⟨rfl, h, h'⟩ | ⟨g, cap, rfl, _, _, h0, h4, _, _⟩
    · rw [h, h']; exact Src.ofNil w Tryz.underlying75 0
    · exact Src.ofSlice w Tryz.underlying75 ⟨g, 0, none⟩ m.length cap (prs m) h0 (fun j u hj => by rw [Addr.add_mid]; exact h4 j u hj) one
  by_cases hz : v1 = .slice none 0 0 ∧ m.length = 0
  · obtain ⟨rfl, hm0⟩ := hz
    have hl0 : l.length = 0 := by
      rcases h1 with ⟨_, h, _⟩ | ⟨g, cap, h, _⟩
      · exact h
      · cases h
    obtain rfl : l = [] := List.length_eq_zero_iff.1 hl0
    obtain rfl : m = [] := List.length_eq_zero_iff.1 hm0
    refine ⟨.slice none 0 0, w, ?_, OwnM.nil 2 w, ⟨rfl, rfl, rfl, Nat.le_refl _, fun _ _ _ => rfl, .inl rfl⟩⟩
    rcases h2 with ⟨rfl, _⟩ | ⟨g, cap, rfl, _⟩
    · kernel_rfl
    · kernel_rfl
  · obtain ⟨v', w', a1, a2, a3⟩ := run_append_M (P := Tryz.prog) w 75 75 75 50 i0 (.agg #[.int .i64 0, .int .i64 0]) Tryz.underlying75 hi hz0 hz1 rfl v1 l.length (prs l) h1 v2 m.length (prs m) hsrc
      (by rw [hz2]; omega) (by rw [maxLen]; omega) (fun e => by
        rcases Nat.eq_zero_or_pos m.length with h | h
        · exact absurd ⟨e, h⟩ hz
        · exact h)
    refine ⟨v', w', a1, ?_, a3⟩
    rw [OwnP, prs_append, List.length_append]
    exact a2
theorem ownP_at {w : World} {a : Option Addr} {c n : Nat} {l : List (Nat × Nat)} (h : OwnP w (.slice a n c) l) {j : Nat} {s : Nat × Nat} (hj : l[j]? = some s) : ∃ g, a = some ⟨g, 0, none⟩ ∧ g < w.heap.size ∧ w.cell? ⟨g, j * 2, none⟩ = some (.int .i64 (s.1 : Int)) ∧ w.cell? ⟨g, j * 2 + 1, none⟩ = some (.int .i64 (s.2 : Int)) := by
  obtain ⟨g, cap, e, c0, hg⟩ := h.cell (prs_get hj).1
  obtain ⟨g', cap', e', c1, _⟩ := h.cell (prs_get hj).2
  injection e with e
  injection e' with e'
  rw [e] at e'
  injection e' with e'
  injection e' with e'
  subst e'
  exact ⟨g, e, hg, c0, c1⟩
/-- a list of texts while it is filled -/
def vpre {α : Type} (f : α → List UInt8) (S : List α) (k : Nat) : List (List UInt8) := (S.take k).map f ++ List.replicate (S.length - k) []
theorem vpre_zero {α : Type} (f : α → List UInt8) (S : List α) : vpre f S 0 = List.replicate S.length [] := by simp [vpre]
theorem vpre_all {α : Type} (f : α → List UInt8) (S : List α) : vpre f S S.length = S.map f := by simp [vpre]
theorem vpre_len {α : Type} (f : α → List UInt8) (S : List α) {k : Nat} (hk : k ≤ S.length) : (vpre f S k).length = S.length := by simp [vpre]; omega
theorem vpre_set {α : Type} (f : α → List UInt8) (S : List α) {k : Nat} (hk : k < S.length) : (vpre f S k).set k (f S[k]) = vpre f S (k + 1) := by
  unfold vpre
  obtain ⟨m, hm⟩ : ∃ m, S.length - k = m + 1 := ⟨S.length - k - 1, by omega⟩
  have h1 : ((S.take k).map f).length = k := by simp; omega
  rw [hm, show S.length - (k + 1) = m by omega, List.replicate_succ, List.set_append, if_neg (by omega), h1, Nat.sub_self, List.set_cons_zero, List.take_add_one, List.getElem?_eq_getElem hk, List.map_append, List.append_assoc]
  rfl
set_option maxRecDepth 100000 in
set_option maxHeartbeats 2000000 in
theorem areHashes14_is (l : List (List UInt8)) (q : Bool) (hq : hsB8 l = q) (a : Option Addr) (cap : Nat) (w : World) (hc : l.length ≤ 9223372036854775807) (hA : At w a l) :
    Calls Tryz.prog 55 #[.slice a l.length cap] w fun r w' => r = .returned (.bool q) ∧ w' = w := by
  have HQ := hid hq
  generalize hn : l.length = k at *
  have HA := hid hA
  clear hA hq
  go_enter Tryz.func55, Tryz.ntmps55
  go_wp2
  go_loopw [7] (fun i w' => ∃ j : Nat, j ≤ k ∧ i = .int .i64 (j : Int) ∧ Hid ((l.take j).all (·.length == 32) = true) ∧ w' = w) (fun i _ => k - (intOf i).toNat)
  case atStart => exact ⟨0, by omega, rfl, rfl, rfl⟩
  case round =>
    obtain ⟨j, hj, rfl, hall, rfl⟩ := hrel
    by_cases hjk : j < k
    · have b0 : (j : Int) < (k : Int) := by omega
      obtain ⟨y, rfl⟩ := HA.out.pos (by omega)
      obtain ⟨s, hs, hcell⟩ := HA.out.cell j (by omega)
      by_cases h32 : s.size = 32
      · have i2 : (s.size : Int) = 32 := by omega
        have e2 := hid (all_take l j (by omega) hall.out (by rw [← hs.out, data_length]; exact h32))
        clear HA hall hs
        go_wp2
        exact ⟨⟨j + 1, by omega, by go_num, e2, trivial⟩, by simp [intOf]; omega⟩
      · have i2 : ((s.size : Int) != 32) = true := by simp; omega
        have i3 : ((s.size : Int) == 32) = false := by simp; omega
        have e2 := all_not l j (by omega) (by rw [← hs.out, data_length]; exact h32)
        have e3 := hid (show q = false by rw [← HQ.out]; exact e2)
        clear HA hall hs e2
        go_wp2
        go_ret
        exact ⟨by rw [e3.out]; rfl, rfl⟩
    · obtain rfl : j = k := by omega
      have b0 : ¬ (j : Int) < (j : Int) := by omega
      rw [← hn, List.take_length] at hall
      have e3 := hid (show q = true by rw [← HQ.out]; exact hall.out)
      clear HA hall
      go_wp2
      go_ret
      exact ⟨by rw [e3.out]; rfl, rfl⟩
/-- is it a run? -/
def runB (n x y : Int) : Bool := decide (0 ≤ x ∧ x < y ∧ y ≤ n)
set_option maxRecDepth 100000 in
set_option maxHeartbeats 2000000 in
theorem isRun_is (n x y : Int) (q : Bool) (hq : runB n x y = q) (w : World) : Calls Tryz.prog 44 #[.int .i64 n, sg x y] w fun r w' => r = .returned (.bool q) ∧ Below w.heap.size w w' := by
  have S0 := SpI.new w x y
  have hb := hid ((Below.refl _ w).alloc (Nat.le_refl _) (.cells #[.int .i64 x, .int .i64 y] 50))
  have c0 := S0.c0
  have c1 := S0.c1
  clear S0
  by_cases h1 : 0 ≤ x
  · by_cases h2 : x < y
    · by_cases h3 : y ≤ n
      · have er := hid (show q = true by rw [← hq]; simp [runB, h1, h2, h3])
        clear hq
        go_enter Tryz.func44, Tryz.ntmps44
        go_wp2
        go_ret
        exact ⟨by rw [er.out]; rfl, hb.out⟩
      · have er := hid (show q = false by rw [← hq]; simp [runB, h3])
        clear hq
        go_enter Tryz.func44, Tryz.ntmps44
        go_wp2
        go_ret
        exact ⟨by rw [er.out]; rfl, hb.out⟩
    · have er := hid (show q = false by rw [← hq]; simp [runB, h2])
      clear hq
      go_enter Tryz.func44, Tryz.ntmps44
      go_wp2
      go_ret
      exact ⟨by rw [er.out]; rfl, hb.out⟩
  · have er := hid (show q = false by rw [← hq]; simp [runB, h1])
    clear hq
    go_enter Tryz.func44, Tryz.ntmps44
    go_wp2
    go_ret
    exact ⟨by rw [er.out]; rfl, hb.out⟩
set_option maxRecDepth 100000 in
set_option maxHeartbeats 2000000 in
theorem told14_any (n x y : Nat) (h1 : x < y) (h2 : y ≤ n) (h3 : n ≤ 1099511627776) (w : World) : Calls Tryz.prog 53 #[.int .i64 (n : Int), sg (x : Int) (y : Int)] w fun r w' => ∃ v, r = .returned v ∧ OwnP w' v (Tree.runF n 0 n x y) ∧ (∀ k, v.ownBlock = some k → w.heap.size ≤ k) ∧ Below w.heap.size w w' := by
  have S0 := SpI.new w x y
  have hb := hid ((Below.refl _ w).alloc (Nat.le_refl _) (.cells #[.int .i64 (x : Int), .int .i64 (y : Int)] 50))
  have c0 := S0.c0
  have c1 := S0.c1
  have hE : runE (n : Int) (x : Int) (y : Int) = 0 := by unfold runE; rw [if_pos (by omega), if_pos (by omega)]
  have hL : runL (n : Int) (x : Int) (y : Int) = Tree.runF n 0 n x y := by unfold runL; rw [if_pos hE, Int.toNat_natCast, Int.toNat_natCast, Int.toNat_natCast]
  have i1 := run8_any (n : Int) (x : Int) (y : Int) (w.alloc (.cells #[.int .i64 (x : Int), .int .i64 (y : Int)] 50))
  rw [hE, hL] at i1
  clear S0 hE hL h1 h2 h3
  go_enter Tryz.func53, Tryz.ntmps53
  go_wp2_with (go_at_call 90; fail)
  refine i1.mono ?_
  rintro r w2 ⟨b2, v, rfl, O2, F2⟩
  have z := hb.out.size
  have FO := hid O2
  have FF : Hid (∀ k, v.ownBlock = some k → w.heap.size ≤ k) := fun k hk => Nat.le_trans z (F2 k hk)
  have FB := hid (hb.out.trans (b2.mono z))
  clear O2 F2 b2 i1
  go_wp2
  go_ret
  exact ⟨v, rfl, FO.out, FF.out, FB.out⟩
end Spn
end Go.Proofs.YtblmaokonhdjaaaGreatDoor

/- Layer 14: slices.Grow of nothing, slices.Concat of texts -/
namespace Go.Proofs.YtblmaokonhdjaaaGreatDoor
open Go.RowKit Go.Shelf
namespace Spn
theorem keep_below14 {w w' : World} {S : Nat → Prop} {B : Nat} (h : Keep S w w') (hB : B ≤ w.heap.size) (hS : ∀ k, S k → B ≤ k) : Below B w w' :=
  ⟨h.os, h.tape, h.output, h.size, fun k hk => h.block k (by omega) fun e => by have := hS k e; omega⟩
theorem infoTx14 : (Tryz.prog.info? 9).map (fun i => (i.zero, i.size, i.bytes)) = some (some (.string ⟨#[]⟩), 1, 16) := by kernel_rfl
theorem grow_fresh {w w' : World} {v v' : Value} {B : Nat} (hG : Grow w w' v v') (hB : B ≤ w.heap.size) (hv : ∀ k, v.ownBlock = some k → B ≤ k) : (∀ k, v'.ownBlock = some k → B ≤ k) ∧ Below B w w' := by
  refine ⟨fun k hk => ?_, ⟨hG.os, hG.tape, hG.output, hG.size, fun k hk => hG.old k (by omega) (fun e => by have := hv k e; omega)⟩⟩
  rcases hG.alt with h | ⟨h, _⟩
  · rw [h] at hk; exact hv k hk
  · have := h k hk; omega
set_option maxRecDepth 100000 in
set_option maxHeartbeats 4000000 in
theorem growT_any (n : Nat) (h0 : 0 < n) (hn : n ≤ 1000000) (w : World) : Calls Tryz.prog 98 #[.slice none 0 0, .int .i64 (n : Int)] w fun r w' => ∃ v, r = .returned v ∧ OwnM 1 w' v 0 [] ∧ (∀ k, v.ownBlock = some k → w.heap.size ≤ k) ∧ Below w.heap.size w w' := by
  obtain ⟨i0, hi, hz0, hz1, hz2⟩ := info_parts infoTx14
  have hap := Go.Lib.run_append_nil_zeros (P := Tryz.prog) w 22 3 22 9 i0 (.string ⟨#[]⟩) .i64 .i64 Tryz.underlying22 Tryz.underlying3 hi hz0 n h0 (by omega) (by omega) (by rw [hz2]; omega)
  have hcap : n ≤ grownCap w n 0 9 := grownCap_ge _ _ _ _
  have hcap2 := grownCap_le_maxLen w n 0 9 (by rw [maxLen]; omega)
  generalize grownCap w n 0 9 = cap at *
  have hrow := heap_alloc_new w.drew (.cells (Builtin.zeroCells (Value.string ⟨#[]⟩).cells n ++ Builtin.zeroCells (Value.string ⟨#[]⟩).cells (cap - n)) 9)
  have hsz : (Builtin.zeroCells (Value.string ⟨#[]⟩).cells n ++ Builtin.zeroCells (Value.string ⟨#[]⟩).cells (cap - n)).size = cap := by
    rw [Array.size_append]
    simp [Builtin.zeroCells, Value.cells]
    omega
  generalize Builtin.zeroCells (Value.string ⟨#[]⟩).cells n ++ Builtin.zeroCells (Value.string ⟨#[]⟩).cells (cap - n) = cs at *
  have HO : Hid (OwnM 1 (w.drew.alloc (.cells cs 9)) (.slice (some ⟨w.heap.size, 0, none⟩) 0 cap) 0 []) :=
    .inr ⟨w.heap.size, cap, rfl, Nat.zero_le _, hcap2, rfl, (fun j v hv => by simp at hv), there_of_row hrow 0 _ (by rw [hsz]; omega), lt_of_heap hrow⟩
  have HB : Hid (Below w.heap.size w (w.drew.alloc (.cells cs 9))) := ((Below.refl w.heap.size w).drew).alloc (Nat.le_refl _) _
  have q0 : ¬ (n : Int) < 0 := by omega
  have q1 : (0 : Int) < (n : Int) := by omega
  have q2 : IntKind.i64.wrap (n : Int) = (n : Int) := by rw [IntKind.wrap_i64]; omega
  have q3 : ¬ cap = 0 := by omega
  clear hi hz0 hz1 hz2 hrow hsz
  go_enter Tryz.func98, Tryz.ntmps98
  go_wp2_with (at_builtin; go_must (refine Lib.wpList_append_run _ rfl _ _ 22 3 rfl _ _ rfl rfl _ _ hap ?_))
  go_ret
  exact ⟨_, rfl, HO.out, (fun k hk => by cases hk; exact Nat.le_refl _), HB.out⟩
theorem flat_take {α : Type} (Ps : List (List α)) {j : Nat} (hj : j < Ps.length) : (Ps.take (j + 1)).flatten = (Ps.take j).flatten ++ Ps[j] := by
  rw [List.take_add_one, List.getElem?_eq_getElem hj, List.flatten_append]; simp
theorem flat_le {α : Type} (Ps : List (List α)) (j : Nat) : (Ps.take j).flatten.length ≤ Ps.flatten.length := by
  have h : Ps.flatten = (Ps.take j).flatten ++ (Ps.drop j).flatten := by rw [← List.flatten_append, List.take_append_drop]
  rw [h, List.length_append]; omega
theorem svs_app (a b : List (List UInt8)) : svs (a ++ b) = svs a ++ svs b := by simp [svs]
theorem src_at {w : World} {a : Option Addr} {L : List (List UInt8)} (hA : At w a L) (c : Nat) : Src Tryz.prog 1 22 (.slice a L.length c) L.length (svs L) w := by
  cases a with
  | none =>
    have hL : L = [] := by
      cases L with
      | nil => rfl
      | cons x L =>
        obtain ⟨y, hy, _⟩ := hA 0 x rfl
        cases hy
    subst hL
    exact Src.ofNil w Tryz.underlying22 c
  | some x =>
    exact Src.ofSlice w Tryz.underlying22 x L.length c (svs L) (by rw [svs_length, Nat.mul_one]) (fun j u hj => by
      simp only [svs, List.getElem?_map, Option.map_eq_some_iff] at hj
      obtain ⟨p, hp, rfl⟩ := hj
      obtain ⟨y, hy, _, hc⟩ := hA j p hp
      obtain rfl := Option.some.inj hy
      exact hc) (fun u hu => by obtain ⟨p, _, rfl⟩ := List.mem_map.1 hu; rfl)
/-- append(l, x...) of texts -/
theorem append_txs (w : World) (v : Value) (l : List (List UInt8)) (a : Option Addr) (c : Nat) (L : List (List UInt8)) (h : OwnM 1 w v l.length (svs l)) (hA : At w a L) (hl : l.length + L.length ≤ 8000000000000) :
    ∃ v' w', (Builtin.append_ #[22, 22] 22 #[v, .slice a L.length c]).run Tryz.prog w = .ok v' w' ∧ OwnM 1 w' v' (l ++ L).length (svs (l ++ L)) ∧ Grow w w' v v' := by
  obtain ⟨i0, hi, hz0, hz1, hz2⟩ := info_parts infoTx14
  by_cases hz : v = .slice none 0 0 ∧ L.length = 0
  · obtain ⟨rfl, hm0⟩ := hz
    have hl0 : l.length = 0 := by
      rcases h with ⟨_, h, _⟩ | ⟨g, cap, h, _⟩
      · exact h
      · cases h
    obtain rfl : l = [] := List.length_eq_zero_iff.1 hl0
    obtain rfl : L = [] := List.length_eq_zero_iff.1 hm0
    refine ⟨.slice none 0 0, w, ?_, OwnM.nil 1 w, ⟨rfl, rfl, rfl, Nat.le_refl _, fun _ _ _ => rfl, .inl rfl⟩⟩
    cases a with
    | none => kernel_rfl
    | some x => kernel_rfl
  · obtain ⟨v', w', a1, a2, a3⟩ := run_append_M (P := Tryz.prog) w 22 22 22 9 i0 (.string ⟨#[]⟩) Tryz.underlying22 hi hz0 hz1 rfl v l.length (svs l) h _ L.length (svs L) (src_at hA c) (by rw [hz2]; omega) (by rw [maxLen]; omega) (fun e => by
      rcases Nat.eq_zero_or_pos L.length with h | h
      · exact absurd ⟨e, h⟩ hz
      · exact h)
    exact ⟨v', w', a1, by rw [List.length_append, svs_app]; exact a2, a3⟩
set_option maxRecDepth 100000 in
set_option maxHeartbeats 4000000 in
/-- slices.Concat -/
theorem concat14_any (g : Nat) (Ps : List (List (List UInt8))) (aa : Nat → Option Addr) (cc : Nat → Nat) (w : World) (hg : g < w.heap.size) (hc : ∀ j P, Ps[j]? = some P → w.cell? ⟨g, j, none⟩ = some (.slice (aa j) P.length (cc j)) ∧ At w (aa j) P) (hl : Ps.flatten.length ≤ 100000) (h0 : 0 < Ps.flatten.length) (hn : Ps.length ≤ 100) :
    Calls Tryz.prog 58 #[.slice (some ⟨g, 0, none⟩) Ps.length Ps.length] w fun r w' => ∃ v, r = .returned v ∧ OwnM 1 w' v Ps.flatten.length (svs Ps.flatten) ∧ (∀ k, v.ownBlock = some k → w.heap.size ≤ k) ∧ Below w.heap.size w w' := by
  have HC := hid hc
  obtain ⟨m, hm⟩ : ∃ m, Ps.length = m := ⟨_, rfl⟩
  have Hm := hid hm
  obtain ⟨N, hN⟩ : ∃ N, Ps.flatten.length = N := ⟨_, rfl⟩
  have HN := hid hN
  rw [hm] at hn ⊢
  rw [hN] at hl h0 ⊢
  have iG := growT_any N h0 (by omega) w
  clear hc hm hN
  go_enter Tryz.func58, Tryz.ntmps58
  go_wp2
  go_loopw [3, 5, 11] (fun sz _ i w' => ∃ j T : Nat, j ≤ m ∧ i = .int .i64 (j : Int) ∧ sz = .int .i64 (T : Int) ∧ Hid ((Ps.take j).flatten.length = T) ∧ w' = w) (fun _ _ i _ => m - (intOf i).toNat)
  case atStart => exact ⟨0, 0, by omega, rfl, rfl, rfl, rfl⟩
  case round =>
    obtain ⟨j, T, hj, rfl, rfl, hT, hw⟩ := hrel
    have hw := hw.symm
    subst hw
    by_cases hjm : j < m
    · have b0 : (j : Int) < (m : Int) := by omega
      have j0 : (0 : Int) ≤ (j : Int) := by omega
      have hjP : j < Ps.length := by rw [Hm.out]; exact hjm
      have hcell := (HC.out j Ps[j] (List.getElem?_eq_getElem hjP)).1
      have hnx : (Ps.take (j + 1)).flatten.length = T + Ps[j].length := by rw [flat_take Ps hjP, List.length_append, hT.out]
      have hle := flat_le Ps (j + 1)
      rw [hnx, HN.out] at hle
      have HX := hid hnx
      generalize Ps[j].length = p at *
      have w1 : IntKind.i64.wrap ((T : Int) + (p : Int)) = ((T + p : Nat) : Int) := by rw [IntKind.wrap_i64]; omega
      have w2 : ¬ (T : Int) + (p : Int) < 0 := by omega
      clear hnx
      go_wp2
      exact ⟨⟨j + 1, T + p, by omega, by go_num, by go_num, HX, trivial⟩, by simp [intOf]; omega⟩
    · obtain rfl : j = m := by omega
      have b0 : ¬ (j : Int) < (j : Int) := by omega
      obtain rfl : T = N := by rw [← hT.out, ← HN.out, ← Hm.out, List.take_length]
      go_wp2_with (go_at_call 98; fail)
      refine iG.mono ?_
      rintro r w1 ⟨v1, rfl, o1, f1, b1⟩
      have O1 := hid o1
      have F1 := hid f1
      have B1 := hid b1
      clear iG o1 f1 b1 hT
      go_wp2
      go_loopw [6, 8, 27] (fun v _ i w' => ∃ k : Nat, k ≤ j ∧ i = .int .i64 (k : Int) ∧ Hid (OwnM 1 w' v (Ps.take k).flatten.length (svs (Ps.take k).flatten)) ∧ Hid (∀ b, v.ownBlock = some b → w.heap.size ≤ b) ∧ Hid (Below w.heap.size w w')) (fun _ _ i _ => j - (intOf i).toNat)
      case atStart => exact ⟨0, by omega, rfl, O1, F1, B1⟩
      case round =>
        clear O1 F1 B1
        obtain ⟨k, hk, rfl, hO, hF, hB⟩ := hrel
        by_cases hkm : k < j
        · have d0 : (k : Int) < (j : Int) := by omega
          have d1 : (0 : Int) ≤ (k : Int) := by omega
          have hkP : k < Ps.length := by rw [Hm.out]; exact hkm
          obtain ⟨hcell, hAt⟩ := HC.out k Ps[k] (List.getElem?_eq_getElem hkP)
          have hcell := (hB.out.cell (p := ⟨g, k, none⟩) hg).trans hcell
          have hnx := flat_take Ps hkP
          have hle := flat_le Ps (k + 1)
          rw [HN.out, hnx, List.length_append] at hle
          obtain ⟨v2, w2, hap, o2, G2⟩ := append_txs wr _ _ (aa k) (cc k) Ps[k] hO.out (hAt.below hB.out (Nat.le_refl _)) (by omega)
          obtain ⟨f2, b2⟩ := grow_fresh G2 hB.out.size hF.out
          rw [← hnx] at o2
          have HO2 := hid o2
          have HF2 := hid f2
          have HB2 := hid (hB.out.trans b2)
          generalize Ps[k] = P at *
          clear o2 f2 b2 G2 hAt hnx hle hO hF hB
          go_wp2_with (at_builtin; go_must (refine Lib.wpList_append_run _ rfl _ _ 22 22 rfl _ _ rfl rfl _ _ hap ?_))
          exact ⟨⟨k + 1, by omega, by go_num, HO2, HF2, HB2⟩, by simp [intOf]; omega⟩
        · obtain rfl : k = j := by omega
          have d0 : ¬ (k : Int) < (k : Int) := by omega
          have hOO := hO.out
          rw [← Hm.out, List.take_length, HN.out] at hOO
          have HOO := hid hOO
          go_wp2
          go_ret
          exact ⟨_, rfl, HOO.out, hF.out, hB.out⟩
end Spn
end Go.Proofs.YtblmaokonhdjaaaGreatDoor
