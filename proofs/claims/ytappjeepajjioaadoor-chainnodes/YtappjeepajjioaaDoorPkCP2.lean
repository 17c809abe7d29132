import Derived.Test.YtappjeepajjioaaDoorPkTL1
import Derived.Test.YtappjeepajjioaaDoorPkFN1
import Derived.Test.YtappjeepajjioaaDoorPkO51
import Derived.Test.YtappjeepajjioaaDoorPkSP10
import Derived.Test.YtappjeepajjioaaDoorPkO8
namespace Go.Proofs.YtappjeepajjioaaDoor
open Go.RowKit Go.Shelf
namespace Chn
theorem sizeAr (a b : Value) : (Tryd.prog.info? 85).map (·.size) = some #[a, b].size := by kernel_rfl
set_option maxRecDepth 100000 in
theorem ends_any (b e : Int) (w : World) : Calls Tryd.prog 47 #[sg b e] w fun r w' => r = .returned (sg b e) ∧ Below w.heap.size w w' := by
  have S0 := SpI.new w b e
  have c0 := S0.c0
  have c1 := S0.c1
  go_enter Tryd.func47, Tryd.ntmps47
  go_wp2
  refine bodyPost_ret (v := sg b e) (results_cell_row rfl _ _ (w.heap.size + 1) 85 _ (0, 0) _ rfl (heap_alloc_at _ _ _ (by simp)) Tryd.underlying85 rfl (sizeAr _ _)) rfl ⟨rfl, ?_⟩
  exact ((Below.refl _ _).alloc (Nat.le_refl _) _).alloc (by simp) _
set_option maxRecDepth 100000 in
set_option maxHeartbeats 4000000 in
theorem partsC_at (b e m : Nat) (h2 : 2 ≤ e - b) (he : e ≤ 1099511627776) (hm : Hid (m = b + Tree.sp (e - b))) (w : World) :
    Calls Tryd.prog 48 #[sg b e] w fun r w' => r = .returned (.tuple #[sg b m, sg m e]) ∧ Below w.heap.size w w' := by
  have hb := bitLen_log _ ((((e - b : Nat) : Int) - 1).toNat) (Nat.le_refl _) (by omega) (by omega)
  have hL := log_le (x := (((e - b : Nat) : Int) - 1).toNat) (by omega) (by omega)
  have hc := lenU_any (((e - b : Nat) : Int) - 1) (by omega) (by omega)
  have hm2 : Hid (m = b + 2 ^ (((e - b : Nat) : Int) - 1).toNat.log2) := by
    unfold Hid
    rw [hm.out, Tree.sp_eq (by omega), show e - b - 1 = (((e - b : Nat) : Int) - 1).toNat from by omega]
  have hme : m < e := by rw [hm.out]; have := Tree.sp_lt (n := e - b) h2; omega
  rw [hb] at hc
  clear hb
  generalize (((e - b : Nat) : Int) - 1).toNat.log2 = L at *
  have hw1 : IntKind.i64.wrap (((e - b : Nat) : Int) - 1) = ((e - b : Nat) : Int) - 1 := by rw [IntKind.wrap_i64]; omega
  have hw2 : IntKind.u64.wrap (((e - b : Nat) : Int) - 1) = ((e - b : Nat) : Int) - 1 := by rw [IntKind.wrap_u64]; omega
  have hp := wrap_pow hL
  obtain ⟨N, hN⟩ : ∃ N : Nat, Hid (2 ^ L = N) := ⟨_, rfl⟩
  rw [hN.out] at hp hm2
  have hN1 : (2 : Int) ^ L = (N : Int) := by rw [← hN.out]; simp
  have hN2 : IntKind.i64.wrap (N : Int) = (N : Int) := by rw [IntKind.wrap_i64]; have := hm2.out; omega
  have hL1 : IntKind.i64.wrap (L : Int) = (L : Int) := by rw [IntKind.wrap_i64]; omega
  have hL2 : (L : Int) ≤ 64 := by omega
  have hL3 : (0 : Int) ≤ (L : Int) := by omega
  have hadd : IntKind.i64.wrap ((b : Int) + (N : Int)) = (m : Int) := by rw [hm2.out, IntKind.wrap_i64]; have := hm2.out; omega
  clear hp
  have hw0 : IntKind.i64.wrap ((e : Int) - (b : Int)) = ((e - b : Nat) : Int) := by rw [IntKind.wrap_i64]; omega
  obtain ⟨n, hn⟩ : ∃ n, Hid (e - b = n) := ⟨_, rfl⟩
  rw [hn.out] at hc hw0 hw1 hw2
  have S0 := SpI.new w b e
  have B0 := (Below.refl w.heap.size w).alloc (Nat.le_refl _) (.cells #[Value.int .i64 (b : Int), .int .i64 (e : Int)] 45)
  go_enter Tryd.func48, Tryd.ntmps48
  go_wp2
  obtain ⟨w3, hw3⟩ : ∃ w3, Hid ((((w.alloc (.cells #[.int .i64 (b : Int), .int .i64 (e : Int)] 45)).alloc (.cells #[.int .i64 0, .int .i64 0] 45)).alloc (.cells #[.int .i64 0, .int .i64 0] 45)) = w3) := ⟨_, rfl⟩
  rw [hw3.out]
  have B3 : Hid (Below w.heap.size w w3) := by unfold Hid; rw [← hw3.out]; exact (B0.alloc (by rw [size_alloc]; omega) _).alloc (by rw [size_alloc, size_alloc]; omega) _
  have z3 : Hid (w3.heap.size = w.heap.size + 3) := by unfold Hid; rw [← hw3.out]; simp
  have R0 : Hid (SpI w3 w.heap.size b e) := by unfold Hid; rw [← hw3.out]; exact (S0.below ((Below.refl _ _).alloc (Nat.le_refl _) _)).below ((Below.refl _ _).alloc (Nat.le_refl _) _)
  have R1 : Hid (SpI w3 (w.heap.size + 1) 0 0) := by
    unfold Hid; rw [← hw3.out]
    have := SpI.new (w.alloc (.cells #[.int .i64 (b : Int), .int .i64 (e : Int)] 45)) 0 0
    rw [size_alloc] at this
    exact this.below ((Below.refl _ _).alloc (Nat.le_refl _) _)
  have R2 : Hid (SpI w3 (w.heap.size + 1 + 1) 0 0) := by
    unfold Hid; rw [← hw3.out]
    have := SpI.new ((w.alloc (.cells #[.int .i64 (b : Int), .int .i64 (e : Int)] 45)).alloc (.cells #[.int .i64 0, .int .i64 0] 45)) 0 0
    rw [size_alloc, size_alloc] at this
    exact this
  clear hw3 S0 B0
  have x0 := And.intro R0.out.c0 R0.out.c1
  go_region_held3 (fun w' => w'.cell? ⟨w.heap.size, 0, none⟩ = some (.int .i64 (b : Int)) ∧ w'.cell? ⟨w.heap.size, 1, none⟩ = some (.int .i64 (e : Int))) (exact x0) (first | (go_at_call 65; refine (hc _).mono ?_; rintro r w5 ⟨rfl, hw5⟩; have hw5 := hw5.symm; subst hw5))
  go_wp2
  have B5 := B3
  have T0 := R0
  have T1 := R1
  have T2 := R2
  clear R0 R1 R2 x0 B3 z3
  have y0 := And.intro T0.out.c0 T0.out.c1
  have p1 : w3.drew.cell? ⟨w.heap.size + 1, 0, none⟩ = some (.int .i64 0) := T1.out.c0
  have p2 : w3.drew.cell? ⟨w.heap.size + 1, 1, none⟩ = some (.int .i64 0) := T1.out.c1
  have p3 : w3.drew.frozen? ⟨w.heap.size + 1, 0, none⟩ = false := T1.out.f0
  have p4 : w3.drew.frozen? ⟨w.heap.size + 1, 1, none⟩ = false := T1.out.f1
  have q1 : w3.drew.cell? ⟨w.heap.size + 1 + 1, 0, none⟩ = some (.int .i64 0) := T2.out.c0
  have q2 : w3.drew.cell? ⟨w.heap.size + 1 + 1, 1, none⟩ = some (.int .i64 0) := T2.out.c1
  have q3 : w3.drew.frozen? ⟨w.heap.size + 1 + 1, 0, none⟩ = false := T2.out.f0
  have q4 : w3.drew.frozen? ⟨w.heap.size + 1 + 1, 1, none⟩ = false := T2.out.f1
  have y1 : w3.drew.cell? ⟨w.heap.size, 0, none⟩ = some (.int .i64 (b : Int)) := T0.out.c0
  have y2 : w3.drew.cell? ⟨w.heap.size, 1, none⟩ = some (.int .i64 (e : Int)) := T0.out.c1
  have p5 : w3.cell? ⟨w.heap.size + 1, 0, none⟩ = some (.int .i64 0) := T1.out.c0
  have p6 : w3.cell? ⟨w.heap.size + 1, 1, none⟩ = some (.int .i64 0) := T1.out.c1
  have p7 : w3.frozen? ⟨w.heap.size + 1, 0, none⟩ = false := T1.out.f0
  have p8 : w3.frozen? ⟨w.heap.size + 1, 1, none⟩ = false := T1.out.f1
  have q5 : w3.cell? ⟨w.heap.size + 1 + 1, 0, none⟩ = some (.int .i64 0) := T2.out.c0
  have q6 : w3.cell? ⟨w.heap.size + 1 + 1, 1, none⟩ = some (.int .i64 0) := T2.out.c1
  have q7 : w3.frozen? ⟨w.heap.size + 1 + 1, 0, none⟩ = false := T2.out.f0
  have q8 : w3.frozen? ⟨w.heap.size + 1 + 1, 1, none⟩ = false := T2.out.f1
  have s1 : ¬ w.heap.size + 1 = w.heap.size := by omega
  have s2 : ¬ w.heap.size + 1 + 1 = w.heap.size := by omega
  go_region_held3 (fun w' => w'.cell? ⟨w.heap.size, 0, none⟩ = some (.int .i64 (b : Int)) ∧ w'.cell? ⟨w.heap.size, 1, none⟩ = some (.int .i64 (e : Int))) (first | exact y0 | go_keep) (fail)
  go_wp2
  have U1 := (T1.out.two (b : Int) (m : Int))
  have U1' := (U1.far (w.heap.size + 1 + 1) 0 (.int .i64 (m : Int)) (by omega)).far (w.heap.size + 1 + 1) 1 (.int .i64 (e : Int)) (by omega)
  have U2 := ((T2.out.far (w.heap.size + 1) 0 (.int .i64 (b : Int)) (by omega)).far (w.heap.size + 1) 1 (.int .i64 (m : Int)) (by omega)).two (m : Int) (e : Int)
  refine bodyPost_ret (results_row_row rfl _ _ (w.heap.size + 1) (w.heap.size + 1 + 1) 45 45 #[.int .i64 (b : Int), .int .i64 (m : Int)] #[.int .i64 (m : Int), .int .i64 (e : Int)] (0, 0) (0, 0) _ _ rfl U1' Tryd.underlying45 rfl sizeSp8 rfl U2 Tryd.underlying45 rfl sizeSp8) rfl ⟨rfl, ?_⟩
  exact (((((B5.out.setCell (p := ⟨w.heap.size + 1, 0, none⟩) (by show w.heap.size ≤ w.heap.size + 1; omega) _).setCell (p := ⟨w.heap.size + 1, 1, none⟩) (by show w.heap.size ≤ w.heap.size + 1; omega) _).setCell (p := ⟨w.heap.size + 1 + 1, 0, none⟩) (by show w.heap.size ≤ w.heap.size + 1 + 1; omega) _).setCell (p := ⟨w.heap.size + 1 + 1, 1, none⟩) (by show w.heap.size ≤ w.heap.size + 1 + 1; omega) _)).drew.drew
end Chn
end Go.Proofs.YtappjeepajjioaaDoor

namespace Go.Proofs.YtappjeepajjioaaDoor
open Go.RowKit Go.Shelf
namespace Chn
theorem Mc.yes {w : World} {b : Nat} {f : Pl} (h : Mc w b f) {s : Nat × Nat} (hs : Lo s) {x : Nat} (hx : f s = .some x) : (Instr.lookup 54 (.map (some b)) (.agg #[.int .i64 (s.1 : Int), .int .i64 (s.2 : Int)]) true).run Tryd.prog w = .ok (.tuple #[.int .i64 (x : Int), .bool true]) w := by
  obtain ⟨arr, clock, hb, h2, h3, h4⟩ := h.m
  obtain ⟨l, hl⟩ := keyAr hs.r
  have hc := lawAr.check w arr.isEmpty hl
  simp only [kv] at hc
  rcases Mc.find (w := w) h3 h4 hs with ⟨f1, f2, _⟩ | ⟨j, e, y, f1, f2, _⟩
  · rw [hx] at f2; cases f2
  · rw [hx] at f2
    cases f2
    simp only [kn, kv] at f1
    simp [Instr.lookup, run_underlying undPs, MapKept.run_getObj_map hb, hc, f1, Result.andThen]
theorem Mc.not {w : World} {b : Nat} {f : Pl} (h : Mc w b f) {s : Nat × Nat} (hs : Lo s) (hx : f s = .none) : (Instr.lookup 54 (.map (some b)) (.agg #[.int .i64 (s.1 : Int), .int .i64 (s.2 : Int)]) true).run Tryd.prog w = .ok (.tuple #[.int .i64 0, .bool false]) w := by
  obtain ⟨arr, clock, hb, h2, h3, h4⟩ := h.m
  obtain ⟨l, hl⟩ := keyAr hs.r
  have hc := lawAr.check w arr.isEmpty hl
  simp only [kv] at hc
  rcases Mc.find (w := w) h3 h4 hs with ⟨f1, f2, _⟩ | ⟨j, e, y, f1, f2, _⟩
  · simp only [kn, kv] at f1
    simp [Instr.lookup, run_underlying undPs, MapKept.run_getObj_map hb, hc, f1, zeroIn w, Result.andThen]
  · rw [hx] at f2; cases f2
/-- what was told, in memory: q its variable, b its map, v its list -/
structure Td (w : World) (q b : Nat) (v : Value) (K : List (Nat × Nat)) : Prop where
  c0 : w.cell? ⟨q, 0, none⟩ = .some v
  c1 : w.cell? ⟨q, 1, none⟩ = .some (.map (.some b))
  f0 : w.frozen? ⟨q, 0, none⟩ = false
  own : OwnP w v K
  mp : ∃ f, Mc w b f ∧ ∀ s j, f s = .some j ↔ K[j]? = .some s
  lo : ∀ s ∈ K, s.1 < s.2 ∧ s.2 ≤ 1099511627776
  qb : q ≠ b
  vq : v.ownBlock ≠ .some q
  vb : v.ownBlock ≠ .some b
  lt : q < w.heap.size
/-- its blocks -/
def Td.F (q b : Nat) (v : Value) : Nat → Prop := fun k => k = q ∨ k = b ∨ v.ownBlock = .some k
theorem Td.keep {w w' : World} {q b : Nat} {v : Value} {K : List (Nat × Nat)} {S : Nat → Prop} (h : Td w q b v K) (hk : Keep S w w') (hs : ∀ k, Td.F q b v k → ¬ S k) : Td w' q b v K := by
  have eq := hk.block q h.lt (hs q (.inl rfl))
  obtain ⟨f, hf, hg⟩ := h.mp
  exact ⟨(World.cell?_of_block (w := w) eq).trans h.c0, (World.cell?_of_block (w := w) eq).trans h.c1, (World.frozen?_of_block (w := w) eq).trans h.f0, h.own.keep hk fun k e => hs k (.inr (.inr e)), ⟨f, hf.keep hk (hs b (.inr (.inl rfl))), hg⟩, h.lo, h.qb, h.vq, h.vb, Nat.lt_of_lt_of_le h.lt hk.size⟩
theorem Td.below {w w' : World} {q b : Nat} {v : Value} {K : List (Nat × Nat)} (h : Td w q b v K) (hk : Below w.heap.size w w') : Td w' q b v K := h.keep (Keep.ofBelow (S := fun _ => False) hk) fun _ _ e => e
theorem Td.Flt {w : World} {q b : Nat} {v : Value} {K : List (Nat × Nat)} (h : Td w q b v K) : ∀ k, Td.F q b v k → k < w.heap.size := by
  rintro k (rfl | rfl | e)
  · exact h.lt
  · obtain ⟨f, hf, _⟩ := h.mp; exact hf.lt
  · exact h.own.lt k e
theorem Td.yes {w : World} {q b : Nat} {v : Value} {K : List (Nat × Nat)} (h : Td w q b v K) {j x y : Nat} (hj : K[j]? = .some (x, y)) : (Instr.lookup 54 (.map (some b)) (.agg #[.int .i64 (x : Int), .int .i64 (y : Int)]) true).run Tryd.prog w = .ok (.tuple #[.int .i64 (j : Int), .bool true]) w := by
  obtain ⟨f, hf, hg⟩ := h.mp
  have := h.lo _ (List.mem_of_getElem? hj)
  exact hf.yes (s := (x, y)) ⟨by show x ≤ _; omega, by show y ≤ _; omega⟩ ((hg _ _).2 hj)
theorem Td.no {w : World} {q b : Nat} {v : Value} {K : List (Nat × Nat)} (h : Td w q b v K) {x y : Nat} (hxy : x < y) (hy : y ≤ 1099511627776) (hj : ¬ (x, y) ∈ K) : (Instr.lookup 54 (.map (some b)) (.agg #[.int .i64 (x : Int), .int .i64 (y : Int)]) true).run Tryd.prog w = .ok (.tuple #[.int .i64 0, .bool false]) w := by
  obtain ⟨f, hf, hg⟩ := h.mp
  refine hf.not (s := (x, y)) ⟨by show x ≤ _; omega, by show y ≤ _; omega⟩ ?_
  cases e : f (x, y) with
  | none => rfl
  | some j => exact absurd (List.mem_of_getElem? ((hg _ _).1 e)) hj
set_option maxRecDepth 100000 in
set_option maxHeartbeats 4000000 in
theorem canFold_any : ∀ (n x y : Nat), y - x ≤ n → x < y → y ≤ 1099511627776 → ∀ (w : World) {q b : Nat} {v : Value} {K : List (Nat × Nat)}, Td w q b v K →
    Calls Tryd.prog 34 #[.pointer (some ⟨q, 0, none⟩), sg x y] w fun r w' => r = .returned (.bool (can K (x, y))) ∧ Below w.heap.size w w'
  | 0, x, y, hn, hxy, hy, w, q, b, v, K, h => by omega
  | n + 1, x, y, hn, hxy, hy, w, q, b, v, K, h => by
    have S0 := SpI.new w x y
    have b0 := (Below.refl w.heap.size w).alloc (Nat.le_refl _) (.cells #[.int .i64 (x : Int), .int .i64 (y : Int)] 45)
    have T0 := hid (h.below b0)
    have B0 := hid b0
    have D0 := h.below b0.drew
    have i1 := fun w' => ends_any (x : Int) (y : Int) w'
    obtain ⟨B, hB⟩ : ∃ B, Hid (can K (x, y) = B) := ⟨_, rfl⟩
    rw [hB.out]
    by_cases hk : (x, y) ∈ K
    · obtain ⟨j, hj⟩ := List.getElem?_of_mem hk
      have eB : Hid (B = true) := by unfold Hid; rw [← hB.out]; exact can_mem hxy hk
      have HJ := hid hj
      have x0 := And.intro T0.out.c1 (And.intro S0.c0 (And.intro S0.c1 (D0.yes hj)))
      have HS := hid S0
      clear h b0 D0 hj hk hB S0
      go_enter Tryd.func34, Tryd.ntmps34
      go_wp2
      go_region_held3 (fun w' => w'.cell? ⟨q, 1, none⟩ = some (.map (some b)) ∧ w'.cell? ⟨w.heap.size, 0, none⟩ = some (.int .i64 (x : Int)) ∧ w'.cell? ⟨w.heap.size, 1, none⟩ = some (.int .i64 (y : Int)) ∧ (Instr.lookup 54 (.map (some b)) (.agg #[.int .i64 (x : Int), .int .i64 (y : Int)]) true).run Tryd.prog w' = .ok (.tuple #[.int .i64 (j : Int), .bool true]) w') (first | exact x1 | exact x0) (first | (go_at_call 47; refine (i1 _).mono ?_; rintro r w1 ⟨rfl, b1⟩; have b1 := drewBelow8 b1; have B1 := hid (B0.out.trans (b1.mono B0.out.size)); have x1 := And.intro (T0.out.below b1).c1 (And.intro (HS.out.below b1).c0 (And.intro (HS.out.below b1).c1 ((T0.out.below b1).yes HJ.out))); clear b1))
      go_wp2
      go_ret
      exact ⟨by rw [eB.out]; rfl, B1.out⟩
    · have HK := hid hk
      have x0 := And.intro T0.out.c1 (And.intro S0.c0 (And.intro S0.c1 (D0.no hxy hy hk)))
      have HS := hid S0
      by_cases h2 : y - x < 2
      · have eB : Hid (B = false) := by unfold Hid; rw [← hB.out]; exact can_one hxy hk h2
        have e1 : (y : Int) - (x : Int) = 1 := by omega
        have e2 : IntKind.i64.wrap ((y : Int) - (x : Int)) = 1 := by rw [e1]; rfl
        clear h b0 D0 hk hB S0
        go_enter Tryd.func34, Tryd.ntmps34
        go_wp2
        go_region_held3 (fun w' => w'.cell? ⟨q, 1, none⟩ = some (.map (some b)) ∧ w'.cell? ⟨w.heap.size, 0, none⟩ = some (.int .i64 (x : Int)) ∧ w'.cell? ⟨w.heap.size, 1, none⟩ = some (.int .i64 (y : Int)) ∧ (Instr.lookup 54 (.map (some b)) (.agg #[.int .i64 (x : Int), .int .i64 (y : Int)]) true).run Tryd.prog w' = .ok (.tuple #[.int .i64 0, .bool false]) w') (first | exact x1 | exact x0) (first | (go_at_call 47; refine (i1 _).mono ?_; rintro r w1 ⟨rfl, b1⟩; have b1 := drewBelow8 b1; have B1 := hid (B0.out.trans (b1.mono B0.out.size)); have x1 := And.intro (T0.out.below b1).c1 (And.intro (HS.out.below b1).c0 (And.intro (HS.out.below b1).c1 ((T0.out.below b1).no hxy hy HK.out))); clear b1))
        have d0 := x1.2.1
        have d1 := x1.2.2.1
        go_wp2
        go_ret
        exact ⟨by rw [eB.out]; rfl, B1.out⟩
      · obtain ⟨m, hm⟩ : ∃ m, Hid (m = x + Tree.sp (y - x)) := ⟨_, rfl⟩
        have s1 := Tree.sp_lt (n := y - x) (by omega)
        have s2 := Tree.sp_pos (n := y - x) (by omega)
        have hm1 : x < m := by rw [hm.out]; omega
        have hm2 : m < y := by rw [hm.out]; omega
        have eB : Hid (B = (can K (x, m) && can K (m, y))) := by unfold Hid; rw [← hB.out, can_two hxy hk h2, hm.out]
        have e2 : ¬ IntKind.i64.wrap ((y : Int) - (x : Int)) = 1 := by rw [IntKind.wrap_i64]; omega
        have e1 : ¬ (y : Int) - (x : Int) = 1 := by omega
        have i2 := fun w' => partsC_at x y m (by omega) hy hm w'
        have i3 := fun w' (t : Td w' q b v K) => canFold_any n x m (by omega) hm1 (by omega) w' t
        have i4 := fun w' (t : Td w' q b v K) => canFold_any n m y (by omega) hm2 hy w' t
        generalize can K (x, m) = P at *
        generalize can K (m, y) = Q at *
        clear h b0 D0 hk hB S0 hm s1 s2
        go_enter Tryd.func34, Tryd.ntmps34
        go_wp2
        go_region_held3 (fun w' => w'.cell? ⟨q, 1, none⟩ = some (.map (some b)) ∧ w'.cell? ⟨w.heap.size, 0, none⟩ = some (.int .i64 (x : Int)) ∧ w'.cell? ⟨w.heap.size, 1, none⟩ = some (.int .i64 (y : Int)) ∧ (Instr.lookup 54 (.map (some b)) (.agg #[.int .i64 (x : Int), .int .i64 (y : Int)]) true).run Tryd.prog w' = .ok (.tuple #[.int .i64 0, .bool false]) w') (first | exact x1 | exact x0) (first | (go_at_call 47; refine (i1 _).mono ?_; rintro r w1 ⟨rfl, b1⟩; have b1 := drewBelow8 b1; have B1 := hid (B0.out.trans (b1.mono B0.out.size)); have T1 := hid (T0.out.below b1); have S1 := hid (HS.out.below b1); have x1 := And.intro T1.out.c1 (And.intro S1.out.c0 (And.intro S1.out.c1 (T1.out.no hxy hy HK.out))); clear b1))
        have d0 := x1.2.1
        have d1 := x1.2.2.1
        clear x0 x1 T0 HS B0
        cases P with
        | false =>
          go_wp2_with (first
            | (go_at_call 48; refine (i2 _).mono ?_; rintro r w2 ⟨rfl, b2⟩; have T2 := hid (T1.out.below b2); have B2 := hid (B1.out.trans (b2.mono B1.out.size)); have bA := ((Below.refl w2.heap.size w2).alloc (Nat.le_refl _) (.cells #[.int .i64 (x : Int), .int .i64 (m : Int)] 45)).alloc (by simp) (.cells #[.int .i64 (m : Int), .int .i64 (y : Int)] 45); have TA := hid (T2.out.below bA); have BA := hid (B2.out.trans (bA.mono B2.out.size)); clear b2 bA)
            | (go_at_call 34; refine (i3 _ TA.out).mono ?_; rintro r w3 ⟨rfl, b3⟩; have B3 := hid (BA.out.trans (b3.mono BA.out.size)); clear b3))
          go_ret
          exact ⟨by rw [eB.out]; rfl, B3.out⟩
        | true =>
          go_wp2_with (first
            | (go_at_call 48; refine (i2 _).mono ?_; rintro r w2 ⟨rfl, b2⟩; have T2 := hid (T1.out.below b2); have B2 := hid (B1.out.trans (b2.mono B1.out.size)); have bA := ((Below.refl w2.heap.size w2).alloc (Nat.le_refl _) (.cells #[.int .i64 (x : Int), .int .i64 (m : Int)] 45)).alloc (by simp) (.cells #[.int .i64 (m : Int), .int .i64 (y : Int)] 45); have TA := hid (T2.out.below bA); have BA := hid (B2.out.trans (bA.mono B2.out.size)); have RA := SpI.new (w2.alloc (.cells #[.int .i64 (x : Int), .int .i64 (m : Int)] 45)) (m : Int) (y : Int); rw [size_alloc] at RA; have RA := hid RA; clear b2 bA)
            | (go_at_call 34; (with_reducible refine (i3 _ TA.out).mono ?_); rintro r w3 ⟨rfl, b3⟩; have B3 := hid (BA.out.trans (b3.mono BA.out.size)); have T3 := hid (TA.out.below b3); have R3 := RA.out.below b3; have r0 := R3.c0; have r1 := R3.c1; clear b3 R3 i3)
            | (go_at_call 34; (with_reducible refine (i4 _ T3.out).mono ?_); rintro r w4 ⟨rfl, b4⟩; have B4 := hid (B3.out.trans (b4.mono B3.out.size)); clear b4))
          go_ret
          exact ⟨by rw [eB.out]; cases Q <;> rfl, B4.out⟩
end Chn
end Go.Proofs.YtappjeepajjioaaDoor

namespace Go.Proofs.YtappjeepajjioaaDoor
open Go.RowKit Go.Shelf
namespace Chn
/-- a list grows: where its blocks lie then -/
theorem Grow.alt' {w w' : World} {v v' : Value} (g : Grow w w' v v') : ∀ k, v'.ownBlock = some k → v.ownBlock = some k ∨ w.heap.size ≤ k := fun k hk => by
  rcases g.alt with q | ⟨q, _⟩
  · exact .inl (by rw [← q]; exact hk)
  · exact .inr (q k hk)
set_option maxRecDepth 100000 in
set_option maxHeartbeats 1000000 in
/-- add: a span that is not there -/
theorem addC_any {w : World} {q b : Nat} {v : Value} {K : List (Nat × Nat)} (h : Td w q b v K) {x y : Nat} (hxy : x < y) (hy : y ≤ 1099511627776) (hK : ¬ (x, y) ∈ K) (hl : K.length ≤ 1000000) :
    Calls Tryd.prog 35 #[.pointer (some ⟨q, 0, none⟩), sg x y] w fun r w' => r = .returned (.tuple #[]) ∧ ∃ v', Td w' q b v' (K ++ [(x, y)]) ∧ Keep (Td.F q b v) w w' ∧ (∀ k, v'.ownBlock = some k → v.ownBlock = some k ∨ w.heap.size ≤ k) ∧ (∀ o, o ≠ 0 → w'.cell? ⟨q, o, none⟩ = w.cell? ⟨q, o, none⟩) ∧ ∀ o, w'.frozen? ⟨q, o, none⟩ = w.frozen? ⟨q, o, none⟩ := by
  have S0 := SpI.new w x y
  have b0 := (Below.refl w.heap.size w).alloc (Nat.le_refl _) (.cells #[.int .i64 (x : Int), .int .i64 (y : Int)] 45)
  have T0 := hid (h.below b0)
  have B0 := hid b0
  have i1 := fun w' => ends_any (x : Int) (y : Int) w'
  have HT := hid h
  have HS := hid S0
  obtain ⟨va, vc, hv, hvc1, hvc2⟩ := h.own.shape
  obtain ⟨n, hn⟩ : ∃ n, K.length = n := ⟨_, rfl⟩
  have HN := hid hn
  rw [hn] at hv
  have x0 := And.intro T0.out.c0 (And.intro T0.out.c1 (And.intro S0.c0 S0.c1))
  subst hv
  clear h b0 S0 hn hvc1 hvc2
  go_enter Tryd.func35, Tryd.ntmps35
  go_wp2
  go_region_held3 (fun w' => w'.cell? ⟨q, 0, none⟩ = some (.slice va n vc) ∧ w'.cell? ⟨q, 1, none⟩ = some (.map (some b)) ∧ w'.cell? ⟨w.heap.size, 0, none⟩ = some (.int .i64 (x : Int)) ∧ w'.cell? ⟨w.heap.size, 1, none⟩ = some (.int .i64 (y : Int))) (first | exact x2 | exact x1 | exact x0) (first | (go_at_call 47; refine (i1 _).mono ?_; rintro r w1 ⟨rfl, b1⟩; have b1 := drewBelow8 b1; have B1 := hid (B0.out.trans (b1.mono B0.out.size)); have T1 := hid (T0.out.below b1); have S1 := hid (HS.out.below b1); have x1 := And.intro T1.out.c0 (And.intro T1.out.c1 (And.intro S1.out.c0 S1.out.c1)); obtain ⟨f, hf, hg⟩ := T1.out.mp; obtain ⟨w2, hup, M2, bt2, z2⟩ := hf.put (s := (x, y)) ⟨by show x ≤ _; omega, by show y ≤ _; omega⟩ n; have HG := hid hg; have HM2 := hid M2; have K2 := hid (But.keepC bt2); have q2 := HT.out.lt; have x2 := And.intro ((World.cell?_of_block (w := w1) (K2.out.block q T1.out.lt T1.out.qb)).trans T1.out.c0) (And.intro ((World.cell?_of_block (w := w1) (K2.out.block q T1.out.lt T1.out.qb)).trans T1.out.c1) (And.intro (S1.out.keep K2.out (fun e => by have := HT.out.Flt b (.inr (.inl rfl)); omega)).c0 (S1.out.keep K2.out (fun e => by have := HT.out.Flt b (.inr (.inl rfl)); omega)).c1)); clear b1 hf hg M2 bt2 z2))
  have T2c0 := x2.1
  have O2 := hid (T1.out.own.keep K2.out fun k hk e => T1.out.vb (by rw [hk, e]))
  have f2 := (World.frozen?_of_block (w := w1) (K2.out.block q T1.out.lt T1.out.qb)).trans T1.out.f0
  have s0 := x2.2.2.1
  have s1 := x2.2.2.2
  have KW : Hid (Keep (Td.F q b (.slice va n vc)) w w2) := (Keep.ofBelow (S := Td.F q b (.slice va n vc)) B1.out).trans (K2.out.mono (T := Td.F q b (.slice va n vc)) fun k _ e => .inr (.inl e)) fun _ _ e => e
  have hq2 : q < w2.heap.size := Nat.lt_of_lt_of_le q2 KW.out.size
  obtain ⟨v', w3, hap, O3, G3⟩ := append_pair w2.drew (.slice va n vc) K x y O2.out (by omega)
  have g3 := hid G3.keep
  have ga := hid (Grow.alt' G3)
  have e3 := G3.keep.block q hq2 (fun e => HT.out.vq e)
  have c3 : w3.cell? ⟨q, 0, none⟩ = some (.slice va n vc) := (World.cell?_of_block (w := w2.drew) e3).trans T2c0
  have c3' : w3.cell? ⟨q, 1, none⟩ = some (.map (some b)) := (World.cell?_of_block (w := w2.drew) e3).trans x2.2.1
  have f3 : w3.frozen? ⟨q, 0, none⟩ = false := (World.frozen?_of_block (w := w2.drew) e3).trans f2
  have HC3 := hid c3'
  have HQ : Hid (w3.heap[q]? = w.heap[q]?) := e3.trans ((K2.out.block q T1.out.lt T1.out.qb).trans (B1.out.block q q2))
  have HO3 := hid O3
  obtain ⟨va', vn', vc', rfl⟩ := ownM_sl O3
  have hap : (Builtin.append_ #[34, 34] 34 #[.slice va n vc, .slice (some ⟨w2.heap.size, 0, none⟩) 1 1]).run Tryd.prog (w2.alloc (.cells #[.int .i64 (x : Int), .int .i64 (y : Int)] 45)).drew = .ok (.slice va' vn' vc') w3 := hap
  obtain ⟨v0, hv0⟩ : ∃ v0, Value.slice va n vc = v0 := ⟨_, rfl⟩
  rw [hv0] at hap T2c0 c3
  have HV0 := hid hv0
  clear x0 x1 x2 G3 O3 c3' e3 hv0 hup
  have bA := (Below.refl w2.heap.size w2.drew).alloc (Nat.le_refl _) (.cells #[.int .i64 (x : Int), .int .i64 (y : Int)] 45)
  have S2 : Hid (SpI w2 w.heap.size x y) := S1.out.keep K2.out (fun e => by have := HT.out.Flt b (.inr (.inl rfl)); omega)
  have SA := hid (SpI.below (w := w2.drew) S2.out bA)
  have c2A : (w2.drew.alloc (.cells #[.int .i64 (x : Int), .int .i64 (y : Int)] 45)).cell? ⟨q, 0, none⟩ = some v0 := (bA.cell (p := ⟨q, 0, none⟩) hq2).trans T2c0
  have S3 : Hid (SpI w3 w.heap.size x y) := SpI.keep (w := w2.drew) S2.out g3.out (fun e => by have := HT.out.own.lt _ e; omega)
  have y0 := And.intro S2.out.c0 S2.out.c1
  have y1 := And.intro SA.out.c0 SA.out.c1
  have y2 := And.intro S3.out.c0 S3.out.c1
  have S4 := S3.out.far q 0 (.slice va' vn' vc') (by omega)
  have y3 := And.intro S4.c0 S4.c1
  clear bA S4
  -- by hand
  have HO4 := hid (HO3.out.keep (Keep.ofSet (S := fun k => k = q) w3 q 0 (.slice va' vn' vc') rfl) fun k hk e => by
    rcases ga.out k hk with h1 | h1
    · exact HT.out.vq (by rw [HV0.out, ← e]; rw [HV0.out] at h1; exact h1)
    · have : w2.heap.size ≤ k := h1
      omega)
  have post : Hid (∃ v', Td (w3.setCell ⟨q, 0, none⟩ (.slice va' vn' vc')) q b v' (K ++ [(x, y)]) ∧ Keep (Td.F q b (.slice va n vc)) w (w3.setCell ⟨q, 0, none⟩ (.slice va' vn' vc')) ∧ (∀ k, v'.ownBlock = some k → (Value.slice va n vc).ownBlock = some k ∨ w.heap.size ≤ k) ∧ (∀ o, o ≠ 0 → (w3.setCell ⟨q, 0, none⟩ (.slice va' vn' vc')).cell? ⟨q, o, none⟩ = w.cell? ⟨q, o, none⟩) ∧ ∀ o, (w3.setCell ⟨q, 0, none⟩ (.slice va' vn' vc')).frozen? ⟨q, o, none⟩ = w.frozen? ⟨q, o, none⟩) := by
    have zb := HT.out.Flt b (.inr (.inl rfl))
    have zz := KW.out.size
    have ga' : ∀ k, (Value.slice va' vn' vc').ownBlock = some k → (Value.slice va n vc).ownBlock = some k ∨ w2.heap.size ≤ k := ga.out
    refine ⟨.slice va' vn' vc', ⟨World.cell?_setCell_same' _ _ _ (by rw [c3]; rfl), ?_, ?_, HO4.out, ⟨upd f (x, y) n, ?_, ?_⟩, ?_, HT.out.qb, ?_, ?_, ?_⟩, ?_, ?_, ?_, ?_⟩
    · exact (World.cell?_setCell_other _ _ _ _ (by simp)).trans HC3.out
    · rw [World.frozen?_setCell]; exact f3
    · have m3 := HM2.out.keep (w' := w3) ⟨g3.out.os, g3.out.tape, g3.out.output, g3.out.size, g3.out.block⟩ (fun e => HT.out.vb e)
      exact m3.heap (Below.heap_setCell _ _ _ b (Ne.symm HT.out.qb))
    · intro s j
      unfold upd
      by_cases hs : s = (x, y)
      · subst hs
        rw [if_pos rfl]
        constructor
        · intro e
          obtain rfl : n = j := Option.some.inj e
          rw [← HN.out, List.getElem?_append_right (Nat.le_refl _), Nat.sub_self]
          rfl
        · intro e
          by_cases hj : j < K.length
          · rw [List.getElem?_append_left hj] at e
            exact absurd (List.mem_of_getElem? e) hK
          · have := (List.getElem?_eq_some_iff.1 e).1
            rw [List.length_append, List.length_singleton] at this
            have := HN.out
            exact congrArg some (by omega)
      · rw [if_neg hs, HG.out s j]
        constructor
        · intro e
          rw [List.getElem?_append_left (List.getElem?_eq_some_iff.1 e).1]
          exact e
        · intro e
          by_cases hj : j < K.length
          · rw [List.getElem?_append_left hj] at e
            exact e
          · have h1 := (List.getElem?_eq_some_iff.1 e).1
            rw [List.length_append, List.length_singleton] at h1
            rw [List.getElem?_append_right (by omega), show j - K.length = 0 by omega] at e
            exact absurd (Option.some.inj e).symm hs
    · intro s hs
      rcases List.mem_append.1 hs with hs | hs
      · exact HT.out.lo s hs
      · obtain rfl := List.mem_singleton.1 hs
        exact ⟨hxy, hy⟩
    · intro e
      rcases ga' q e with h1 | h1
      · exact HT.out.vq h1
      · omega
    · intro e
      rcases ga' b e with h1 | h1
      · exact HT.out.vb h1
      · omega
    · have z3 := g3.out.size
      have : (w3.setCell ⟨q, 0, none⟩ (.slice va' vn' vc')).heap.size = w3.heap.size := by simp
      rw [this]
      exact Nat.lt_of_lt_of_le hq2 z3
    · refine (KW.out.trans (⟨g3.out.os, g3.out.tape, g3.out.output, g3.out.size, g3.out.block⟩ : Keep (fun k => (Value.slice va n vc).ownBlock = some k) w2 w3) fun k _ e => .inr (.inr e)).trans (Keep.ofSet (S := fun k => k = q) w3 q 0 (.slice va' vn' vc') rfl) fun k _ e => .inl e
    · intro k hk
      rcases ga' k hk with h1 | h1
      · exact .inl h1
      · exact .inr (by omega)
    · intro o ho
      exact (World.cell?_setCell_other _ _ _ _ (by intro e; injection e with _ e; exact ho e.symm)).trans (World.cell?_of_block (w := w) HQ.out)
    · intro o
      rw [World.frozen?_setCell]
      exact World.frozen?_of_block (w := w) HQ.out
  clear HO4
  have hapS := hap
  rw [← HV0.out] at hapS
  go_wp2
  refine wp_region_held_drew (S := (fun w' => w'.cell? ⟨w.heap.size, 0, none⟩ = some (.int .i64 (x : Int)) ∧ w'.cell? ⟨w.heap.size, 1, none⟩ = some (.int .i64 (y : Int)))) (by kernel_rfl) y0 (fun hHeld => ?_)
  refine wpAnyH_take (i := 0) (oi := ⟨some 15, _, _, _, _, _⟩) (v := .pointer (some ⟨q, 0, none⟩)) rfl (by kernel_rfl) (by kernel_rfl) (by kernel_rfl) (fun _ _ _ h => h) (Or.inl ⟨by rfl, ?_⟩) hHeld ?_
  · intro w' hw'
    simp [go_sem]
  dsimp only [Act.put]
  refine wpAnyH_take (i := 1) (oi := ⟨some 16, _, _, _, _, _⟩) (v := .pointer (some ⟨q, 0, none⟩)) rfl (by kernel_rfl) (by kernel_rfl) (by kernel_rfl) (fun _ _ _ h => h) (Or.inl ⟨by rfl, ?_⟩) hHeld ?_
  · intro w' hw'
    simp [go_sem]
  dsimp only [Act.put]
  refine wpAnyH_take (i := 2) (oi := ⟨some 17, _, _, _, _, _⟩) (v := .pointer (some ⟨q, 0, none⟩)) rfl (by kernel_rfl) (by kernel_rfl) (by kernel_rfl) (fun _ _ _ h => h) (Or.inl ⟨by rfl, ?_⟩) hHeld ?_
  · intro w' hw'
    simp [go_sem]
  dsimp only [Act.put]
  refine wpAnyH_take (i := 3) (oi := ⟨some 18, _, _, _, _, _⟩) (v := .pointer (some ⟨q, 0, none⟩)) rfl (by kernel_rfl) (by kernel_rfl) (by kernel_rfl) (fun _ _ _ h => h) (Or.inl ⟨by rfl, ?_⟩) hHeld ?_
  · intro w' hw'
    simp [go_sem]
  dsimp only [Act.put]
  refine wpAnyH_take (i := 5) (oi := ⟨some 20, _, _, _, _, _⟩) (v := sg x y) rfl (by kernel_rfl) (by kernel_rfl) (by kernel_rfl) (fun _ _ _ h => h) (Or.inl ⟨by rfl, ?_⟩) hHeld ?_
  · intro w' hw'
    obtain ⟨y0, y1⟩ := hw'; simp [go_sem, y0, y1]
  dsimp only [Act.put]
  refine wpAnyH_ready (rs := [4, 6]) (by kernel_rfl) (by decide) (AllReadyH.cons rfl (fun K' hK' => ?_) (AllReadyH.cons rfl (fun K' hK' => ?_) AllReadyH.nil))
  · rw [if_pos (by rfl)]
    have T2c1 : w2.drew.cell? ⟨q, 0, none⟩ = some v0 := T2c0
    go_wp2
    refine hK'.out _ _ y0 (fun hHeld => ?_)
    refine wpAnyH_ready (rs := [6]) (by kernel_rfl) (by decide) (AllReadyH.cons rfl (fun K' hK' => ?_) AllReadyH.nil)
    rw [if_pos (by rfl)]
    go_wp2
    refine hK'.out _ _ y1 (fun hHeld => ?_)
    refine wpAnyH_ready (rs := [7]) (by kernel_rfl) (by decide) (AllReadyH.cons rfl (fun K' hK' => ?_) AllReadyH.nil)
    refine step_append_run rfl _ _ 34 rfl v0 _ (.slice va' vn' vc') w3 rfl rfl hap ?_
    refine hK'.out _ _ y2 (fun hHeld => ?_)
    dsimp only [Act.put]
    refine wpAnyH_take (i := 8) (oi := ⟨some 23, _, _, _, _, _⟩) (v := .pointer (some ⟨q, 0, none⟩)) rfl (by kernel_rfl) (by kernel_rfl) (by kernel_rfl) (fun _ _ _ h => h) (Or.inl ⟨by rfl, ?_⟩) hHeld ?_
    · intro w' hw'
      simp [go_sem]
    dsimp only [Act.put]
    refine wpAnyH_take (i := 9) (oi := ⟨some 24, _, _, _, _, _⟩) (v := .pointer (some ⟨q, 0, none⟩)) rfl (by kernel_rfl) (by kernel_rfl) (by kernel_rfl) (fun _ _ _ h => h) (Or.inl ⟨by rfl, ?_⟩) hHeld ?_
    · intro w' hw'
      simp [go_sem]
    dsimp only [Act.put]
    refine wpAnyH_ready (rs := [10]) (by kernel_rfl) (by decide) (AllReadyH.cons rfl (fun K' hK' => ?_) AllReadyH.nil)
    rw [if_pos (by rfl)]
    go_wp2
    refine hK'.out _ _ y3 (fun _ => wpAnyH_done (by kernel_rfl) ?_ _)
    go_wp2
    go_end0
    exact ⟨rfl, post.out⟩
  · rw [if_pos (by rfl)]
    go_wp2
    refine hK'.out _ _ y1 (fun hHeld => ?_)
    refine wpAnyH_ready (rs := [4]) (by kernel_rfl) (by decide) (AllReadyH.cons rfl (fun K' hK' => ?_) AllReadyH.nil)
    rw [if_pos (by rfl)]
    go_wp2
    refine hK'.out _ _ y1 (fun hHeld => ?_)
    refine wpAnyH_ready (rs := [7]) (by kernel_rfl) (by decide) (AllReadyH.cons rfl (fun K' hK' => ?_) AllReadyH.nil)
    refine step_append_run rfl _ _ 34 rfl (.slice va n vc) _ (.slice va' vn' vc') w3 rfl rfl hapS ?_
    refine hK'.out _ _ y2 (fun hHeld => ?_)
    dsimp only [Act.put]
    refine wpAnyH_take (i := 8) (oi := ⟨some 23, _, _, _, _, _⟩) (v := .pointer (some ⟨q, 0, none⟩)) rfl (by kernel_rfl) (by kernel_rfl) (by kernel_rfl) (fun _ _ _ h => h) (Or.inl ⟨by rfl, ?_⟩) hHeld ?_
    · intro w' hw'
      simp [go_sem]
    dsimp only [Act.put]
    refine wpAnyH_take (i := 9) (oi := ⟨some 24, _, _, _, _, _⟩) (v := .pointer (some ⟨q, 0, none⟩)) rfl (by kernel_rfl) (by kernel_rfl) (by kernel_rfl) (fun _ _ _ h => h) (Or.inl ⟨by rfl, ?_⟩) hHeld ?_
    · intro w' hw'
      simp [go_sem]
    dsimp only [Act.put]
    refine wpAnyH_ready (rs := [10]) (by kernel_rfl) (by decide) (AllReadyH.cons rfl (fun K' hK' => ?_) AllReadyH.nil)
    rw [if_pos (by rfl)]
    go_wp2
    refine hK'.out _ _ y3 (fun _ => wpAnyH_done (by kernel_rfl) ?_ _)
    go_wp2
    go_end0
    exact ⟨rfl, post.out⟩
end Chn
end Go.Proofs.YtappjeepajjioaaDoor

namespace Go.Proofs.YtappjeepajjioaaDoor
open Go.RowKit Go.Shelf
namespace Chn
set_option maxRecDepth 100000 in
set_option maxHeartbeats 1000000 in
theorem betweenC (m n : Nat) (h1 : 1 ≤ m) (h2 : m ≤ n) (h3 : n ≤ 1099511627776) (w : World) : Calls Tryd.prog 33 #[.int .i64 (m : Int), .int .i64 (n : Int)] w fun r w' => Below w.heap.size w w' ∧ ∃ v, r = .returned v ∧ OwnP w' v (prf m n) ∧ ∀ k, v.ownBlock = some k → w.heap.size ≤ k := by
  have i1 := proof8_any (m : Int) (n : Int) w
  have e1 : proofE (m : Int) (n : Int) = 0 := by unfold proofE; rw [if_pos (by omega)]
  have e2 : proofL (m : Int) (n : Int) = prf m n := by unfold proofL prf; rw [if_pos e1, Int.toNat_natCast, Int.toNat_natCast]
  rw [e1, e2] at i1
  go_enter Tryd.func33, Tryd.ntmps33
  go_wp2_with (go_at_call 46; refine i1.mono ?_; rintro r w1 ⟨b1, v, rfl, O1, hv⟩; have B1 := hid b1; have HO := hid O1; have HV := hid hv; clear b1 O1 hv)
  go_ret
  exact ⟨B1.out, v, rfl, HO.out, HV.out⟩
/-- do numbers rise, the first k steps? -/
def upTo (cs : List Int) (k : Nat) : Bool := (List.range k).all fun i => decide (cs.getD i 0 < cs.getD (i + 1) 0)
/-- may heads be? -/
def mayB (cs : List Int) : Bool := decide (1 ≤ cs.length ∧ cs.length ≤ 64 ∧ 1 ≤ cs.getD 0 0 ∧ cs.getD (cs.length - 1) 0 ≤ 1099511627776) && upTo cs (cs.length - 1)
theorem upTo_next {cs : List Int} {k : Nat} : upTo cs (k + 1) = (upTo cs k && decide (cs.getD k 0 < cs.getD (k + 1) 0)) := by
  unfold upTo
  rw [List.range_succ, List.all_append]
  simp
theorem upTo_le {cs : List Int} {k m : Nat} (h : upTo cs m = true) (hk : k < m) : cs.getD k 0 < cs.getD (k + 1) 0 := by
  unfold upTo at h
  rw [List.all_eq_true] at h
  exact of_decide_eq_true (h k (List.mem_range.2 hk))
theorem upTo_not {cs : List Int} {k m : Nat} (hk : k < m) (h : ¬ cs.getD k 0 < cs.getD (k + 1) 0) : upTo cs m = false := by
  cases e : upTo cs m with
  | false => rfl
  | true => exact absurd (upTo_le e hk) h
theorem getI {cs : List Int} {i : Nat} (h : i < cs.length) : cs[i]? = some (cs.getD i 0) := by rw [List.getD_eq_getElem?_getD, List.getElem?_eq_getElem h]; rfl
theorem mayB_hds {cs : List Int} (h : mayB cs = true) : ∃ hs, cs = ix hs ∧ Hds hs := by
  unfold mayB at h
  rw [Bool.and_eq_true, decide_eq_true_eq] at h
  obtain ⟨⟨h1, h2, h3, h4⟩, h5⟩ := h
  have up : ∀ (d i : Nat), i + d < cs.length → cs.getD i 0 ≤ cs.getD (i + d) 0 := fun d => by
    induction d with
    | zero => intro i _; exact Int.le_refl _
    | succ d ih =>
      intro i hi
      have a := ih i (by omega)
      have b := upTo_le h5 (k := i + d) (by omega)
      rw [show i + (d + 1) = i + d + 1 by omega]
      omega
  have lo : ∀ i, i < cs.length → 1 ≤ cs.getD i 0 ∧ cs.getD i 0 ≤ 1099511627776 := fun i hi => by
    have a := up i 0 (by omega)
    have b := up (cs.length - 1 - i) i (by omega)
    rw [Nat.zero_add] at a
    rw [show i + (cs.length - 1 - i) = cs.length - 1 by omega] at b
    omega
  have hx : cs = ix (cs.map Int.toNat) := by
    refine List.ext_getElem? fun i => ?_
    unfold ix
    rw [List.map_map, List.getElem?_map]
    by_cases hi : i < cs.length
    · have := lo i hi
      rw [getI hi]
      show some _ = some (((cs.getD i 0).toNat : Nat) : Int)
      rw [Int.toNat_of_nonneg (by omega)]
    · rw [List.getElem?_eq_none (by omega)]; rfl
  have hg : ∀ (i a : Nat), (cs.map Int.toNat)[i]? = some a → i < cs.length ∧ (a : Int) = cs.getD i 0 := fun i a ha => by
    rw [List.getElem?_map] at ha
    by_cases hi : i < cs.length
    · have := lo i hi
      rw [getI hi] at ha
      have : (cs.getD i 0).toNat = a := Option.some.inj ha
      exact ⟨hi, by omega⟩
    · rw [List.getElem?_eq_none (by omega)] at ha; cases ha
  refine ⟨cs.map Int.toNat, hx, ⟨by simpa using h1, by simpa using h2, fun i a b ha hb => ?_, fun i a ha => ?_⟩⟩
  · obtain ⟨q1, q2⟩ := hg i a ha
    obtain ⟨q3, q4⟩ := hg (i + 1) b hb
    have := upTo_le h5 (k := i) (by omega)
    omega
  · obtain ⟨q1, q2⟩ := hg i a ha
    have := lo i q1
    omega
theorem hds_mayB {hs : List Nat} (h : Hds hs) : mayB (ix hs) = true := by
  have hl : (ix hs).length = hs.length := by simp [ix]
  have hd : ∀ i, i < hs.length → (ix hs).getD i 0 = (hs.getD i 0 : Int) := fun i hi => by
    have e1 := getI (cs := ix hs) (i := i) (by omega)
    have e2 := getD_at hi
    unfold ix at e1
    rw [List.getElem?_map, e2] at e1
    exact (Option.some.inj e1).symm
  unfold mayB
  rw [Bool.and_eq_true, decide_eq_true_eq, hl]
  refine ⟨⟨h.ne, h.le, ?_, ?_⟩, ?_⟩
  · rw [hd 0 (by have := h.ne; omega)]; have := h.lo 0 _ (getD_at (by have := h.ne; omega)); omega
  · rw [hd _ (by have := h.ne; omega)]; have := h.lo (hs.length - 1) _ (getD_at (by have := h.ne; omega)); omega
  · unfold upTo
    rw [List.all_eq_true]
    intro i hi
    rw [List.mem_range] at hi
    refine decide_eq_true ?_
    rw [hd i (by omega), hd (i + 1) (by omega)]
    have := h.pair (i := i) (by omega)
    omega
set_option maxRecDepth 100000 in
set_option maxHeartbeats 2000000 in
theorem mayBe_any (cs : List Int) (a : Option Addr) (cap : Nat) (w : World) (hc : cs.length ≤ 9223372036854775807) (hA : AtI w a cs) :
    Calls Tryd.prog 24 #[.slice a cs.length cap] w fun r w' => r = .returned (.bool (mayB cs)) ∧ Below w.heap.size w w' := by
  obtain ⟨B, hB⟩ : ∃ B, Hid (mayB cs = B) := ⟨_, rfl⟩
  rw [hB.out]
  obtain ⟨m, hm⟩ : ∃ m, cs.length = m := ⟨_, rfl⟩
  have HM := hid hm
  rw [hm] at hc ⊢
  have bad : Hid (¬ (1 ≤ m ∧ m ≤ 64 ∧ 1 ≤ cs.getD 0 0 ∧ cs.getD (m - 1) 0 ≤ 1099511627776) → B = false) := fun hn => by
    rw [← hB.out]
    unfold mayB
    rw [HM.out, decide_eq_false hn, Bool.false_and]
  by_cases h1 : m = 0
  · have e := hid (bad.out (by omega))
    subst h1
    clear hA hm bad
    go_enter Tryd.func24, Tryd.ntmps24
    go_wp2
    go_ret
    exact ⟨by rw [e.out]; rfl, Below.refl _ _⟩
  · obtain ⟨x, rfl⟩ := hA.pos (by omega)
    have q1 : ¬ (m : Int) = 0 := by omega
    have q0 : (0 : Int) < (m : Int) := by omega
    by_cases h2 : 64 < m
    · have e := hid (bad.out (by omega))
      have q2 : (64 : Int) < (m : Int) := by omega
      clear hA hm bad
      go_enter Tryd.func24, Tryd.ntmps24
      go_wp2
      go_ret
      exact ⟨by rw [e.out]; rfl, Below.refl _ _⟩
    · have q2 : ¬ (64 : Int) < (m : Int) := by omega
      have c0 : w.cell? x = some (.int .i64 (cs.getD 0 0)) := by
        obtain ⟨y, hy, _, hc0⟩ := hA 0 _ (getI (by omega))
        obtain rfl := Option.some.inj hy
        exact hc0
      have c0' : w.cell? (x.add 0) = some (.int .i64 (cs.getD 0 0)) := c0
      have cL : w.cell? (x.add (m - 1)) = some (.int .i64 (cs.getD (m - 1) 0)) := by
        obtain ⟨y, hy, _, hc0⟩ := hA (m - 1) _ (getI (by omega))
        obtain rfl := Option.some.inj hy
        exact hc0
      have HA := hid hA
      have w1 : IntKind.i64.wrap ((m : Int) - 1) = (m : Int) - 1 := by rw [IntKind.wrap_i64]; omega
      have w2 : ((m : Int) - 1).toNat = m - 1 := by omega
      have w3 : (0 : Int) ≤ (m : Int) - 1 := by omega
      have w4 : (m : Int) - 1 < (m : Int) := by omega
      by_cases h3 : cs.getD 0 0 < 1
      · have e := hid (bad.out (by omega))
        clear hA hm bad HA
        generalize cs.getD 0 0 = z at *
        go_enter Tryd.func24, Tryd.ntmps24
        go_wp2
        go_ret
        exact ⟨by rw [e.out]; rfl, Below.refl _ _⟩
      · by_cases h4 : 1099511627776 < cs.getD (m - 1) 0
        · have e := hid (bad.out (by omega))
          clear hA hm bad HA
          generalize cs.getD 0 0 = z at *
          generalize cs.getD (m - 1) 0 = y at *
          go_enter Tryd.func24, Tryd.ntmps24
          go_wp2
          go_ret
          exact ⟨by rw [e.out]; rfl, Below.refl _ _⟩
        · have eB : Hid (B = upTo cs (m - 1)) := by
            unfold Hid
            rw [← hB.out]
            unfold mayB
            rw [HM.out, decide_eq_true (by omega), Bool.true_and]
          have BM := hid bad
          clear hA hm bad hB
          obtain ⟨z, hz⟩ : ∃ z, cs.getD 0 0 = z := ⟨_, rfl⟩
          obtain ⟨y, hy⟩ : ∃ y, cs.getD (m - 1) 0 = y := ⟨_, rfl⟩
          rw [hz] at c0 c0' h3
          rw [hy] at cL h4
          clear hz hy BM
          go_enter Tryd.func24, Tryd.ntmps24
          go_wp2
          clear c0 c0' cL
          go_loopw [3, 30] (fun _ i w' => ∃ j : Nat, j ≤ m - 1 ∧ i = .int .i64 (j : Int) ∧ Hid (upTo cs j = true) ∧ Hid (Below w.heap.size w w')) (fun _ i _ => m - (intOf i).toNat)
          case atStart => exact ⟨0, by omega, rfl, rfl, Below.refl _ _⟩
          case round =>
            obtain ⟨j, hj, rfl, hup, hbw⟩ := hrel
            by_cases hjm : j < m - 1
            · have b0 : (j : Int) < (m : Int) - 1 := by omega
              have d0 : wr.cell? (x.add j) = some (.int .i64 (cs.getD j 0)) := by
                obtain ⟨y, hy, _, hc0⟩   := (HA.out.below hbw.out (Nat.le_refl _)) j _ (getI (by rw [HM.out]; omega))
                obtain rfl := Option.some.inj hy
                exact hc0
              have d1 : wr.cell? (x.add (j + 1)) = some (.int .i64 (cs.getD (j + 1) 0)) := by
                obtain ⟨y, hy, _, hc0⟩ := (HA.out.below hbw.out (Nat.le_refl _)) (j + 1) _ (getI (by rw [HM.out]; omega))
                obtain rfl := Option.some.inj hy
                exact hc0
              have d2 : wr.cell? ⟨x.block, x.off + (j + 1), none⟩ = some (.int .i64 (cs.getD (j + 1) 0)) := by rw [← d1]; simp [Addr.add]
              have v1 : IntKind.i64.wrap ((j : Int) + 1) = (j : Int) + 1 := by rw [IntKind.wrap_i64]; omega
              have v2 : ((j : Int) + 1).toNat = j + 1 := by omega
              have v3 : (0 : Int) ≤ (j : Int) + 1 := by omega
              have v4 : (j : Int) + 1 < (m : Int) := by omega
              have v5 : (j : Int) < (m : Int) := by omega
              have v6 : (0 : Int) ≤ (j : Int) := by omega
              by_cases hlt : cs.getD j 0 < cs.getD (j + 1) 0
              · have e2 : Hid (upTo cs (j + 1) = true) := by unfold Hid; rw [upTo_next, hup.out, decide_eq_true hlt]; rfl
                have hge : ¬ cs.getD (j + 1) 0 ≤ cs.getD j 0 := by omega
                generalize cs.getD j 0 = p at *
                generalize cs.getD (j + 1) 0 = q at *
                clear hup
                go_wp2
                go_quiet (fail)
                go_wp2
                exact ⟨⟨j + 1, by omega, by go_num, e2, (by exact ⟨hbw.out.os, hbw.out.tape, hbw.out.output, hbw.out.size, hbw.out.block⟩)⟩, by simp [intOf]; omega⟩
              · have e3 : Hid (B = false) := by unfold Hid; rw [eB.out]; exact upTo_not hjm hlt
                have hge : cs.getD (j + 1) 0 ≤ cs.getD j 0 := by omega
                generalize cs.getD j 0 = p at *
                generalize cs.getD (j + 1) 0 = q at *
                clear hup
                go_wp2
                go_quiet (fail)
                go_wp2
                go_ret
                exact ⟨by rw [e3.out]; rfl, (by exact ⟨hbw.out.os, hbw.out.tape, hbw.out.output, hbw.out.size, hbw.out.block⟩)⟩
            · obtain rfl : j = m - 1 := by omega
              have b0 : ¬ ((m - 1 : Nat) : Int) < (m : Int) - 1 := by omega
              have e3 : Hid (B = true) := by unfold Hid; rw [eB.out]; exact hup.out
              clear hup
              go_wp2
              go_ret
              exact ⟨by rw [e3.out]; rfl, hbw.out⟩
set_option maxRecDepth 100000 in
set_option maxHeartbeats 2000000 in
theorem areHashes13_is (l : List (List UInt8)) (q : Bool) (hq : hsB8 l = q) (a : Option Addr) (cap : Nat) (w : World) (hc : l.length ≤ 9223372036854775807) (hA : At w a l) :
    Calls Tryd.prog 29 #[.slice a l.length cap] w fun r w' => r = .returned (.bool q) ∧ w' = w := by
  have HQ := hid hq
  generalize hn : l.length = k at *
  have HA := hid hA
  clear hA hq
  go_enter Tryd.func29, Tryd.ntmps29
  go_wp2
  go_loopw [7] (fun i w' => ∃ j : Nat, j ≤ k ∧ i = .int .i64 (j : Int) ∧ Hid ((l.take j).all (·.length == 32) = true) ∧ w' = w) (fun i _ => k - (intOf i).toNat)
  case atStart => exact ⟨0, by omega, rfl, rfl, rfl⟩
  case round =>
    obtain ⟨j, hj, rfl, hall, rfl⟩ := hrel
    by_cases hjk : j < k
    · have b0 : (j : Int) < (k : Int) := by omega
      obtain ⟨y, rfl⟩ := HA.out.pos (by omega)
      obtain ⟨s, hs, hcell⟩ := HA.out.cell j (by omega)
      by_cases h32 : s.size = 32
      · have i2 : (s.size : Int) = 32 := by omega
        have e2 := hid (all_take l j (by omega) hall.out (by rw [← hs.out, data_length]; exact h32))
        clear HA hall hs
        go_wp2
        exact ⟨⟨j + 1, by omega, by go_num, e2, trivial⟩, by simp [intOf]; omega⟩
      · have i2 : ((s.size : Int) != 32) = true := by simp; omega
        have i3 : ((s.size : Int) == 32) = false := by simp; omega
        have e2 := all_not l j (by omega) (by rw [← hs.out, data_length]; exact h32)
        have e3 := hid (show q = false by rw [← HQ.out]; exact e2)
        clear HA hall hs e2
        go_wp2
        go_ret
        exact ⟨by rw [e3.out]; rfl, rfl⟩
    · obtain rfl : j = k := by omega
      have b0 : ¬ (j : Int) < (j : Int) := by omega
      rw [← hn, List.take_length] at hall
      have e3 := hid (show q = true by rw [← HQ.out]; exact hall.out)
      clear HA hall
      go_wp2
      go_ret
      exact ⟨by rw [e3.out]; rfl, rfl⟩
end Chn
end Go.Proofs.YtappjeepajjioaaDoor
