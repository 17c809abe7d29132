import Derived.Test.YtfolaldjdefioaaDoorO32
namespace Go.Proofs.YtfolaldjdefioaaDoor
open Go.RowKit
theorem Root_at {l : List (List UInt8)} {r : List UInt8} {z : Int} (h : Hid (rootOut l = (r, z))) (a : Option Addr) (cap : Nat) (w : World) (hl : l.length ≤ cap) (hc : cap ≤ 9223372036854775807) (hA : At w a l) (T : Tabs w) :
    Calls Tryd.prog 15 #[.slice a l.length cap] w fun e w' => e = .returned (.tuple #[sv r, .int .i64 z]) ∧ Below w.heap.size w w' := by
  have := Root_any l a cap w hl hc hA T
  rwa [h.out] at this
theorem rRoot_at {l : List (List UInt8)} {r : List UInt8} {z : Int} (h : Hid (rootOut l = (r, z))) (a : Option Addr) (cap : Nat) (w : World) (hl : l.length ≤ cap) (hc : cap ≤ 9223372036854775807) (hA : At w a l) :
    Calls Tryd.prog 26 #[.slice a l.length cap] w fun e w' => e = .returned (.tuple #[sv r, .int .i64 z]) ∧ Below w.heap.size w w' := by
  have := rRoot_any l a cap w hl hc hA
  rwa [h.out] at this
theorem Part_at {l : List (List UInt8)} {b e : Int} {r : List UInt8} {z : Int} (h : Hid (partOut l b e = (r, z))) (a : Option Addr) (cap : Nat) (w : World) (hl : l.length ≤ cap) (hc : cap ≤ 9223372036854775807) (hA : At w a l) (T : Tabs w) :
    Calls Tryd.prog 16 #[.slice a l.length cap, .agg #[.int .i64 b, .int .i64 e]] w fun x w' => x = .returned (.tuple #[sv r, .int .i64 z]) ∧ Below w.heap.size w w' := by
  have := Part_any l b e a cap w hl hc hA T
  rwa [h.out] at this
theorem rPart_at {l : List (List UInt8)} {b e : Int} {r : List UInt8} {z : Int} (h : Hid (partOut l b e = (r, z))) (a : Option Addr) (cap : Nat) (w : World) (hl : l.length ≤ cap) (hc : cap ≤ 9223372036854775807) (hA : At w a l) :
    Calls Tryd.prog 27 #[.slice a l.length cap, .agg #[.int .i64 b, .int .i64 e]] w fun x w' => x = .returned (.tuple #[sv r, .int .i64 z]) ∧ Below w.heap.size w w' := by
  have := rPart_any l b e a cap w hl hc hA
  rwa [h.out] at this
theorem Row.first {w : World} {H : Nat} {ps r : List (List UInt8)} (h : Row w H (ps ++ r)) : At w (some ⟨H, 0, none⟩) ps := by
  have := h.at.take ps.length
  rwa [List.take_left] at this
/-- append([]string(nil), l...) -/
theorem append_copy (w : World) (a : Option Addr) (cap : Nat) (L : List (List UInt8)) (hA : At w a L) (hlen : L.length ≤ 8796093021952) :
    ∃ v' w', (Builtin.append_ #[26, 26] 26 #[.slice none 0 0, .slice a L.length cap]).run Tryd.prog w = .ok v' w' ∧ Own w' w.heap.size v' (svs L) ∧ Below w.heap.size w w' := by
  obtain ⟨i0, hi, hz0, hz1, hz2⟩ := info_parts infoS
  by_cases h0 : L.length = 0
  · obtain rfl : L = [] := List.length_eq_zero_iff.1 h0
    have hsrc : Src Tryd.prog 1 26 (.slice a 0 cap) 0 [] w := by
      cases a with
      | none => exact Src.ofNil w Tryd.underlying26 cap
      | some x => exact Src.ofSlice w Tryd.underlying26 x 0 cap [] (by simp) (fun j u hj => by simp at hj) (fun u hu => by simp at hu)
    exact ⟨_, w, append_zero w _ hsrc, Own.nil _ _, Below.refl _ _⟩
  · obtain ⟨x, rfl⟩ := hA.pos (by omega)
    have hsrc : Src Tryd.prog 1 26 (.slice (some x) L.length cap) L.length (svs L) w :=
      Src.ofSlice w Tryd.underlying26 x L.length cap (svs L) (by rw [svs_length, Nat.mul_one]) (fun j u hj => by
        simp only [svs, List.getElem?_map, Option.map_eq_some_iff] at hj
        obtain ⟨p, hp, rfl⟩ := hj
        obtain ⟨y, hy, _, hc⟩ := hA j p hp
        obtain rfl := Option.some.inj hy
        exact hc) (fun u hu => svs_one hu)
    obtain ⟨v', w', h1, h2, h3, h4⟩ := run_append_O (P := Tryd.prog) w w.heap.size 26 26 26 9 i0 (.string ⟨#[]⟩) Tryd.underlying26 hi hz0 hz1 rfl (.slice none 0 0) [] (Own.nil _ _) _ L.length (svs L) hsrc
      (by rw [hz2]; simp; omega) (by rw [maxLen]; simp; omega) (Nat.le_refl _) (fun _ => by omega)
    exact ⟨v', w', h1, by simpa using h2, Below.ofGrown (v := .slice none 0 0) h3 (fun k hk => by cases hk) (Nat.le_refl _)⟩
/-- turned round, the first k of them -/
def rv (l : List (List UInt8)) (k : Nat) : List (List UInt8) := l.reverse.take k ++ l.drop k
theorem rv_len (l : List (List UInt8)) (k : Nat) (hk : k ≤ l.length) : (rv l k).length = l.length := by simp [rv]; omega
theorem rv_zero (l : List (List UInt8)) : rv l 0 = l := by simp [rv]
theorem rv_all (l : List (List UInt8)) : rv l l.length = l.reverse := by
  rw [rv, List.drop_length, List.append_nil, List.take_of_length_le (by simp)]
theorem rv_step (l : List (List UInt8)) (k : Nat) (hk : k < l.length) (p : List UInt8) (hp : l[l.length - 1 - k]? = some p) (r : List (List UInt8)) : (rv l k ++ r).set k p = rv l (k + 1) ++ r := by
  have hr : l.reverse[k]? = some p := by rw [List.getElem?_reverse (by omega)]; exact hp
  have e1 : l.reverse.take (k + 1) = l.reverse.take k ++ [p] := by rw [List.take_add_one, hr]; rfl
  have hd : l.drop k = l[k] :: l.drop (k + 1) := List.drop_eq_getElem_cons hk
  have hl : (l.reverse.take k).length = k := by simp; omega
  rw [rv, rv, e1, hd, List.append_assoc, List.append_assoc, List.append_assoc, List.set_append_right _ _ (by omega), hl, Nat.sub_self]
  rfl
theorem setCell_but (w : World) (H k : Nat) (u : Value) : But H w (w.setCell ⟨H, k, none⟩ u) := But.setCells [u] k (But.refl H w)
set_option maxRecDepth 100000 in
set_option maxHeartbeats 4000000 in
theorem roots_any (l : List (List UInt8)) (b0 e0 at_ many_ : Int) (a : Option Addr) (cap : Nat) (w : World) (hl : l.length ≤ cap) (hc : cap ≤ 9223372036854775807) (hn6 : l.length ≤ 8796093021952) (h1 : -9223372036854775808 ≤ at_) (h2 : at_ ≤ 9223372036854775807) (h3 : -9223372036854775808 ≤ many_) (h4 : many_ ≤ 9223372036854775807) (hA : At w a l) (T : Tabs w) :
    Calls Tryd.prog 7 #[.slice a l.length cap, .agg #[.int .i64 b0, .int .i64 e0], .int .i64 at_, .int .i64 many_] w fun e w' => e = .returned (.bool true) ∧ Below w.heap.size w w' := by
  have hb0 := (Below.refl w.heap.size w).alloc (Nat.le_refl _) (.cells #[.int .i64 b0, .int .i64 e0] 36)
  have B0 := hid hb0
  have A0 := hid (hA.below hb0 (Nat.le_refl _))
  have T0 := hid (T.next hb0)
  have d0 : (w.alloc (.cells #[.int .i64 b0, .int .i64 e0] 36)).heap[w.heap.size]? = some (.cells #[.int .i64 b0, .int .i64 e0] 36 (0, 0)) := heap_alloc_new w _
  have D0 := hid d0
  have hS : w.heap.size < (w.alloc (.cells #[.int .i64 b0, .int .i64 e0] 36)).heap.size := by rw [size_alloc]; omega
  have HA := hid hA
  have HT := hid T
  clear hb0 hA T d0
  obtain ⟨n, hn⟩ : ∃ n, l.length = n := ⟨_, rfl⟩
  obtain ⟨r1, z1, hr1⟩ : ∃ r z, Hid (rootOut l = (r, z)) := ⟨_, _, rfl⟩
  obtain ⟨r2, z2, hr2⟩ : ∃ r z, Hid (partOut l b0 e0 = (r, z)) := ⟨_, _, rfl⟩
  have cR := Root_at hr1
  have cr := rRoot_at hr1
  have cP := Part_at hr2
  have cp := rPart_at hr2
  rw [hn] at cR cr cP cp
  have cL := lent_any l a cap
  have cK := kept_yes l
  rw [hn] at cL cK hl hn6 ⊢
  go_enter Tryd.func7, Tryd.ntmps7
  go_wp2_with (go_at_call 9; fail)
  generalize w.alloc (.cells #[.int .i64 b0, .int .i64 e0] 36) = w0 at *
  generalize hSz : w.heap.size = S at *
  refine (known_any _ T0.out).mono ?_
  rintro e w1 ⟨rfl, hw1⟩
  have B1 := hid (B0.out.trans (hw1.mono (by have := B0.out.size; omega)))
  have A1 := hid (A0.out.below hw1 (Nat.le_refl _))
  have T1 := hid (T0.out.next hw1)
  have D1 := hid ((hw1.block S hS).trans D0.out)
  have hS1 := Nat.lt_of_lt_of_le hS hw1.size
  clear hw1 B0 A0 T0 D0 hS
  go_wp2_with (go_at_call 25; fail)
  refine (cL _ (by omega) A1.out).mono ?_
  rintro e w2 ⟨rfl, hR2, hw2⟩
  have R2 := hid hR2
  have B2 := hid (B1.out.trans (hw2.mono (by have := B1.out.size; omega)))
  have A2 := hid (A1.out.below hw2 (Nat.le_refl _))
  have T2 := hid (T1.out.next hw2)
  have D2 := hid ((hw2.block S hS1).trans D1.out)
  have hS2 := Nat.lt_of_lt_of_le hS1 hw2.size
  have hHS : S < w1.heap.size := hS1
  have hHb := B1.out.size
  generalize w1.heap.size = H at *
  clear hR2 hw2 B1 A1 T1 D1 hS1
  have t0 : (n : Int) ≤ (n : Int) + 8 := by omega
  go_wp2_with (go_at_call 15; fail)
  refine (cR _ _ _ (by omega) (by omega) R2.out.first T2.out).mono ?_
  rintro e w3 ⟨rfl, hw3⟩
  have R3 := hid (R2.out.below hw3 R2.out.lt)
  have B3 := hid (B2.out.trans (hw3.mono (by have := B2.out.size; omega)))
  have A3 := hid (A2.out.below hw3 (Nat.le_refl _))
  have T3 := hid (T2.out.next hw3)
  have D3 := hid ((hw3.block S hS2).trans D2.out)
  have hS3 := Nat.lt_of_lt_of_le hS2 hw3.size
  clear hw3 B2 A2 T2 D2 hS2 R2
  go_wp2_with (go_at_call 26; fail)
  refine (cr _ _ _ hl hc A3.out).mono ?_
  rintro e w4 ⟨rfl, hw4⟩
  have R4 := hid (R3.out.below hw4 R3.out.lt)
  have B4 := hid (B3.out.trans (hw4.mono (by have := B3.out.size; omega)))
  have A4 := hid (A3.out.below hw4 (Nat.le_refl _))
  have T4 := hid (T3.out.next hw4)
  have D4 := hid ((hw4.block S hS3).trans D3.out)
  have hS4 := Nat.lt_of_lt_of_le hS3 hw4.size
  clear hw4 B3 A3 T3 D3 hS3 R3
  have c0 : w4.cell? ⟨S, 0, none⟩ = some (.int .i64 b0) := by rw [cell_of_row _ _ _ _ _ _ D4.out]; rfl
  have c1 : w4.cell? ⟨S, 1, none⟩ = some (.int .i64 e0) := by rw [cell_of_row _ _ _ _ _ _ D4.out]; rfl
  go_wp2
  have f4 := hid (show At w4.drew (some ⟨H, 0, none⟩) l from R4.out.first.heap rfl)
  have g4 := hid (T4.out.next (Below.refl w4.heap.size w4).drew)
  go_region_with (go_at_call 16; refine (cP _ _ _ (by omega) (by omega) f4.out g4.out).mono ?_; rintro e w5 ⟨rfl, hw5'⟩)
  have hw5 : Below w4.heap.size w4 w5 := (Below.refl w4.heap.size w4).drew.trans hw5'
  have R5 := hid (R4.out.below hw5 R4.out.lt)
  have B5 := hid (B4.out.trans (hw5.mono (by have := B4.out.size; omega)))
  have A5 := hid (A4.out.below hw5 (Nat.le_refl _))
  have T5 := hid (T4.out.next hw5)
  have D5 := hid ((hw5.block S hS4).trans D4.out)
  have hS5 := Nat.lt_of_lt_of_le hS4 hw5.size
  clear hw5 hw5' B4 A4 T4 D4 hS4 R4 f4 g4 c0 c1
  have c0 : w5.cell? ⟨S, 0, none⟩ = some (.int .i64 b0) := by rw [cell_of_row _ _ _ _ _ _ D5.out]; rfl
  have c1 : w5.cell? ⟨S, 1, none⟩ = some (.int .i64 e0) := by rw [cell_of_row _ _ _ _ _ _ D5.out]; rfl
  go_wp2_with (go_at_call 27; fail)
  refine (cp _ _ _ hl hc A5.out).mono ?_
  rintro e w6 ⟨rfl, hw6⟩
  have R6 := hid (R5.out.below hw6 R5.out.lt)
  have B6 := hid (B5.out.trans (hw6.mono (by have := B5.out.size; omega)))
  have A6 := hid (A5.out.below hw6 (Nat.le_refl _))
  have T6 := hid (T5.out.next hw6)
  clear hw6 B5 A5 T5 D5 hS5 R5 c0 c1
  have en : ((n + 1 : Nat) : Int) = (n : Int) + 1 := by omega
  have hp0 := pk_nonneg at_ ((n : Int) + 1) (by omega)
  have hp1 := pk_lt at_ ((n : Int) + 1) (by omega)
  obtain ⟨Bg, hBg⟩ : ∃ j : Nat, pk at_ ((n : Int) + 1) = (j : Int) := ⟨(pk at_ ((n : Int) + 1)).toNat, by omega⟩
  have ck := pick_any at_ ((n : Int) + 1) h1 h2 (by omega) (by omega)
  rw [hBg] at hp0 hp1 ck
  have hq0 := pk_nonneg many_ ((n : Int) - (Bg : Int) + 1) (by omega)
  have hq1 := pk_lt many_ ((n : Int) - (Bg : Int) + 1) (by omega)
  obtain ⟨Mn, hMn⟩ : ∃ j : Nat, pk many_ ((n : Int) - (Bg : Int) + 1) = (j : Int) := ⟨(pk many_ ((n : Int) - (Bg : Int) + 1)).toNat, by omega⟩
  have cm := pick_any many_ ((n : Int) - (Bg : Int) + 1) h3 h4 (by omega) (by omega)
  rw [hMn] at hq0 hq1 cm
  clear hBg hMn
  go_wp2_with (go_at_call 13; fail)
  refine (ck _).mono ?_
  rintro e w6' ⟨rfl, hw6'⟩
  rw [hw6']
  clear hw6' w6'
  go_wp2
  have hX := heap_alloc_new w6 (.cells #[.int .i64 (Bg : Int), .int .i64 0] 36)
  have hw7 := (Below.refl w6.heap.size w6).alloc (Nat.le_refl _) (.cells #[.int .i64 (Bg : Int), .int .i64 0] 36)
  have R7 := hid (R6.out.below hw7 R6.out.lt)
  have B7 := hid (B6.out.trans (hw7.mono (by have := B6.out.size; omega)))
  have A7 := hid (A6.out.below hw7 (Nat.le_refl _))
  have T7 := hid (T6.out.next hw7)
  have hHX := R6.out.lt
  have hSX := B6.out.size
  have hTX := T6.out.lt
  generalize w6.alloc (.cells #[.int .i64 (Bg : Int), .int .i64 0] 36) = w7 at *
  have A6' := hid A6.out
  clear A6 T6 R6 B6
  generalize hXe : w6.heap.size = X at *
  have c0 : w7.cell? ⟨X, 0, none⟩ = some (.int .i64 (Bg : Int)) := by rw [cell_of_row _ _ _ _ _ _ hX]; rfl
  have c1 : w7.cell? ⟨X, 1, none⟩ = some (.int .i64 0) := by rw [cell_of_row _ _ _ _ _ _ hX]; rfl
  have f1 : w7.frozen? ⟨X, 1, none⟩ = false := frozen_of_row _ _ _ _ _ hX
  have x1 : IntKind.i64.wrap ((n : Int) - (Bg : Int)) = (n : Int) - (Bg : Int) := wrap_small _ (by omega) (by omega)
  have x2 : IntKind.i64.wrap ((n : Int) - (Bg : Int) + 1) = (n : Int) - (Bg : Int) + 1 := wrap_small _ (by omega) (by omega)
  have x3 : IntKind.i64.wrap ((Bg : Int) + (Mn : Int)) = (Bg : Int) + (Mn : Int) := wrap_small _ (by omega) (by omega)
  have hX8 := heap_setCell_same w7 X 1 _ _ (.int .i64 ((Bg : Int) + (Mn : Int))) hX
  have c8 : (w7.setCell ⟨X, 1, none⟩ (.int .i64 ((Bg : Int) + (Mn : Int)))).cell? ⟨X, 0, none⟩ = some (.int .i64 (Bg : Int)) := by rw [cell_of_row _ _ _ _ _ _ hX8]; rfl
  have hw8 := (Below.refl X w7).setCell (p := ⟨X, 1, none⟩) (Nat.le_refl _) (.int .i64 ((Bg : Int) + (Mn : Int)))
  have HX8 := hid hX8
  have HW8 := hid hw8
  clear hX8 hw8 hX
  go_region_held3 (fun w' => w'.cell? ⟨X, 0, none⟩ = some (.int .i64 (Bg : Int))) (first | exact c0 | exact c8) (first | (go_at_call 13; refine (cm _).mono ?_; rintro e w7' ⟨rfl, hw7'⟩; rw [hw7']; clear hw7' w7'))
  have W8 : Below X w6 (w7.setCell ⟨X, 1, none⟩ (.int .i64 ((Bg : Int) + (Mn : Int)))).drew := (hw7.trans HW8.out).drew
  have D8 : (w7.setCell ⟨X, 1, none⟩ (.int .i64 ((Bg : Int) + (Mn : Int)))).drew.heap[X]? = some (.cells #[.int .i64 (Bg : Int), .int .i64 ((Bg : Int) + (Mn : Int))] 36 (0, 0)) := HX8.out
  have R8 := hid ((R7.out.below HW8.out hHX).heap (w' := (w7.setCell ⟨X, 1, none⟩ (.int .i64 ((Bg : Int) + (Mn : Int)))).drew) rfl)
  have B8 := hid ((B7.out.trans (HW8.out.mono (by omega))).drew)
  clear HX8 HW8 c8 c0 c1 f1 hw7 A6' A7 T7 R7 B7
  generalize (w7.setCell ⟨X, 1, none⟩ (.int .i64 ((Bg : Int) + (Mn : Int)))).drew = w8 at *
  have HD8 := hid D8
  have T8 := hid (HT.out.below B8.out (by have := HT.out.lt; omega))
  clear D8 W8
  obtain ⟨r3, z3, hr3⟩ : ∃ r z, Hid (partOut l (Bg : Int) ((Bg : Int) + (Mn : Int)) = (r, z)) := ⟨_, _, rfl⟩
  have cP3 := Part_at hr3
  have cp3 := rPart_at hr3
  rw [hn] at cP3 cp3
  have c0 : w8.cell? ⟨X, 0, none⟩ = some (.int .i64 (Bg : Int)) := by rw [cell_of_row _ _ _ _ _ _ HD8.out]; rfl
  have c1 : w8.cell? ⟨X, 1, none⟩ = some (.int .i64 ((Bg : Int) + (Mn : Int))) := by rw [cell_of_row _ _ _ _ _ _ HD8.out]; rfl
  have hX8 := lt_of_heap HD8.out
  go_wp2
  have f8 := hid (show At w8.drew (some ⟨H, 0, none⟩) l from R8.out.first.heap rfl)
  have g8 := hid (T8.out.next (Below.refl w8.heap.size w8).drew)
  go_region_with (go_at_call 16; refine (cP3 _ _ _ (by omega) (by omega) f8.out g8.out).mono ?_; rintro e w9 ⟨rfl, hw9'⟩)
  have hw9 : Below w8.heap.size w8 w9 := (Below.refl w8.heap.size w8).drew.trans hw9'
  have R9 := hid (R8.out.below hw9 R8.out.lt)
  have B9 := hid (B8.out.trans (hw9.mono (by have := B8.out.size; omega)))
  have D9 := hid ((hw9.block X hX8).trans HD8.out)
  have A9 := hid (HA.out.below B9.out (by omega))
  clear hw9 hw9' B8 T8 HD8 R8 f8 g8 c0 c1 hX8 cP3
  have c0 : w9.cell? ⟨X, 0, none⟩ = some (.int .i64 (Bg : Int)) := by rw [cell_of_row _ _ _ _ _ _ D9.out]; rfl
  have c1 : w9.cell? ⟨X, 1, none⟩ = some (.int .i64 ((Bg : Int) + (Mn : Int))) := by rw [cell_of_row _ _ _ _ _ _ D9.out]; rfl
  have hX9 := lt_of_heap D9.out
  go_wp2_with (go_at_call 27; fail)
  refine (cp3 _ _ _ hl hc A9.out).mono ?_
  rintro e w10 ⟨rfl, hw10⟩
  have R10 := hid (R9.out.below hw10 R9.out.lt)
  have B10 := hid (B9.out.trans (hw10.mono (by have := B9.out.size; omega)))
  have D10 := hid ((hw10.block X hX9).trans D9.out)
  have A10 := hid (HA.out.below B10.out (by omega))
  clear hw10 B9 D9 R9 A9 c0 c1 hX9 cp3
  go_wp2_with (go_at_call 28; fail)
  refine (cK H a cap _ (by omega) R10.out A10.out).mono ?_
  rintro e w11 ⟨rfl, hw11, hh11⟩
  have R11 := hid (R10.out.heap hh11)
  have B11 := hid (B10.out.trans (hw11.mono (by have := B10.out.size; omega)))
  have D11 := hid (show w11.heap[X]? = some (.cells #[.int .i64 (Bg : Int), .int .i64 ((Bg : Int) + (Mn : Int))] 36 (0, 0)) by rw [hh11]; exact D10.out)
  clear hw11 hh11 B10 D10 R10 A10 cK
  rw [svS r1, svS r2, svS r3]
  have y1 : (z1 != z1) = false := by simp
  have y2 : (z2 != z2) = false := by simp
  have y3 : (z3 != z3) = false := by simp
  go_wp2
  have hne : X ≠ H := by omega
  go_loopw [26] (fun i w' => ∃ k : Nat, k ≤ n ∧ i = .int .i64 (k : Int) ∧ Hid (Row w' H (rv l k ++ behind 8)) ∧ Hid (w'.heap[X]? = some (.cells #[.int .i64 (Bg : Int), .int .i64 ((Bg : Int) + (Mn : Int))] 36 (0, 0))) ∧ Hid (Below S w w')) (fun i _ => n - (intOf i).toNat)
  case atStart => exact ⟨0, by omega, rfl, by rw [rv_zero]; exact R11, D11, B11⟩
  case round =>
    clear R11 D11 B11
    obtain ⟨k, hk, rfl, hR, hD, hB⟩ := hrel
    by_cases hkn : k < n
    · have q0 : (k : Int) < (n : Int) := by omega
      obtain ⟨p, hp⟩ : ∃ p, l[n - 1 - k]? = some p := ⟨_, List.getElem?_eq_getElem (by omega)⟩
      obtain ⟨x, rfl, _, hcx⟩ := HA.out.below hB.out (by omega) (n - 1 - k) p hp
      have q1 : IntKind.i64.wrap ((n : Int) - 1) = (n : Int) - 1 := wrap_small _ (by omega) (by omega)
      have q2 : IntKind.i64.wrap ((n : Int) - 1 - (k : Int)) = (n : Int) - 1 - (k : Int) := wrap_small _ (by omega) (by omega)
      have q3 : (0 : Int) ≤ (n : Int) - 1 - (k : Int) := by omega
      have q4 : (n : Int) - 1 - (k : Int) < (n : Int) := by omega
      have q5 : ((n : Int) - 1 - (k : Int)).toNat = n - 1 - k := by omega
      have q6 : (k : Int) < (n : Int) + 8 := by omega
      have hll : (rv l k ++ behind 8).length = n + 8 := by rw [List.length_append, rv_len l k (by omega), behind_len 8 (by omega), hn]
      have hcx0 := hR.out.cell (List.getElem?_eq_getElem (show k < (rv l k ++ behind 8).length by omega))
      have fz := hR.out.free (show k < (rv l k ++ behind 8).length by omega)
      have R' := hR.out.set k p
      rw [rv_step l k (by omega) p (by rw [hn]; exact hp)] at R'
      have B' := hid (hB.out.setCell (p := ⟨H, k, none⟩) (show S ≤ H by omega) (sv p))
      have D' := hid (((setCell_but wr H k (sv p)).block X (lt_of_heap hD.out) hne).trans hD.out)
      rw [svS p] at R' B' D' hcx
      have R'' := hid R'
      clear R' hR hD hB hp
      go_wp2
      exact ⟨⟨k + 1, by omega, by go_num, R'', D', B'⟩, by simp [intOf]; omega⟩
    · obtain rfl : k = n := by omega
      have q0 : ¬ (k : Int) < (k : Int) := by omega
      have hRr := hR.out
      rw [← hn, rv_all] at hRr
      have hn' : l.reverse.length = k := by rw [List.length_reverse, hn]
      obtain ⟨v12, w12, hap, hO12, hw12⟩ := append_copy wr (some ⟨H, 0, none⟩) (k + 8) l.reverse hRr.first (by omega)
      rw [hn'] at hap
      have R12 := hid (hRr.below hw12 hRr.lt)
      have B12 := hid (hB.out.trans (hw12.mono (by have := hB.out.size; omega)))
      have D12 := hid ((hw12.block X (lt_of_heap hD.out)).trans hD.out)
      obtain ⟨a12, c12, rfl, hA12, hl12, hc12⟩ := hO12.at
      have A12 := hid hA12
      have T12 := hid (HT.out.below B12.out (by have := HT.out.lt; omega))
      obtain ⟨r4, z4, hr4⟩ : ∃ r z, Hid (rootOut l.reverse = (r, z)) := ⟨_, _, rfl⟩
      obtain ⟨r5, z5, hr5⟩ : ∃ r z, Hid (partOut l.reverse (Bg : Int) ((Bg : Int) + (Mn : Int)) = (r, z)) := ⟨_, _, rfl⟩
      have cR4 := Root_at hr4
      have cr4 := rRoot_at hr4
      have cP5 := Part_at hr5
      have cp5 := rPart_at hr5
      rw [hn'] at cR4 cr4 cP5 cp5 hl12 hap
      clear hRr hR hD hB hw12 hO12 hA12 cR cr cP cp
      generalize l.reverse = L' at *
      go_wp2_with (first
        | (at_builtin; go_must (refine Lib.wpList_append_run _ rfl _ _ 26 26 rfl _ _ rfl rfl _ _ hap ?_))
        | (go_at_call 15; fail))
      refine (cR4 _ _ _ (by omega) (by omega) R12.out.first T12.out).mono ?_
      rintro e w13 ⟨rfl, hw13⟩
      have R13 := hid (R12.out.below hw13 R12.out.lt)
      have B13 := hid (B12.out.trans (hw13.mono (by have := B12.out.size; omega)))
      have D13 := hid ((hw13.block X (lt_of_heap D12.out)).trans D12.out)
      have A13 := hid (A12.out.below hw13 (Nat.le_refl _))
      clear hw13 R12 B12 D12 A12 T12 hap
      go_wp2_with (go_at_call 26; fail)
      refine (cr4 _ _ _ hl12 hc12 A13.out).mono ?_
      rintro e w14 ⟨rfl, hw14⟩
      have R14 := hid (R13.out.below hw14 R13.out.lt)
      have B14 := hid (B13.out.trans (hw14.mono (by have := B13.out.size; omega)))
      have D14 := hid ((hw14.block X (lt_of_heap D13.out)).trans D13.out)
      have A14 := hid (A13.out.below hw14 (Nat.le_refl _))
      have T14 := hid (HT.out.below B14.out (by have := HT.out.lt; omega))
      clear hw14 R13 B13 D13 A13
      have c0 : w14.cell? ⟨X, 0, none⟩ = some (.int .i64 (Bg : Int)) := by rw [cell_of_row _ _ _ _ _ _ D14.out]; rfl
      have c1 : w14.cell? ⟨X, 1, none⟩ = some (.int .i64 ((Bg : Int) + (Mn : Int))) := by rw [cell_of_row _ _ _ _ _ _ D14.out]; rfl
      go_wp2
      have f14 := hid (show At w14.drew (some ⟨H, 0, none⟩) L' from R14.out.first.heap rfl)
      have g14 := hid (T14.out.next (Below.refl w14.heap.size w14).drew)
      go_region_with (go_at_call 16; refine (cP5 _ _ _ (by omega) (by omega) f14.out g14.out).mono ?_; rintro e w15 ⟨rfl, hw15'⟩)
      have hw15 : Below w14.heap.size w14 w15 := (Below.refl w14.heap.size w14).drew.trans hw15'
      have B15 := hid (B14.out.trans (hw15.mono (by have := B14.out.size; omega)))
      have D15 := hid ((hw15.block X (lt_of_heap D14.out)).trans D14.out)
      have A15 := hid (A14.out.below hw15 (Nat.le_refl _))
      clear hw15 hw15' R14 B14 D14 A14 T14 f14 g14 c0 c1
      have c0 : w15.cell? ⟨X, 0, none⟩ = some (.int .i64 (Bg : Int)) := by rw [cell_of_row _ _ _ _ _ _ D15.out]; rfl
      have c1 : w15.cell? ⟨X, 1, none⟩ = some (.int .i64 ((Bg : Int) + (Mn : Int))) := by rw [cell_of_row _ _ _ _ _ _ D15.out]; rfl
      go_wp2_with (go_at_call 27; fail)
      refine (cp5 _ _ _ hl12 hc12 A15.out).mono ?_
      rintro e w16 ⟨rfl, hw16⟩
      have B16 := hid (B15.out.trans (hw16.mono (by have := B15.out.size; omega)))
      clear hw16 B15 D15 A15 c0 c1
      rw [svS r4, svS r5]
      have y4 : (z4 == z4) = true := by simp
      have y5 : (z5 == z5) = true := by simp
      go_wp2
      go_ret
      exact ⟨rfl, by rw [hSz]; exact B16.out⟩
end Go.Proofs.YtfolaldjdefioaaDoor
