import Derived.Test.YtkpfpfjjkcefkaaCDV3
namespace Go.Proofs.Ytkpfpfjjkcefkaa
open Go.RowKit Go.Maps

theorem isNoPage_pred (w : World) : PredAt Try.prog 32 #[] (fun s : List UInt8 => sv s) (fun s => decide (s.length ≠ 256)) w := fun W x _ => by
  refine (isNoPage_any ⟨x.toArray⟩ W).mono fun e w' ⟨h1, h2⟩ => ⟨by rw [h1, sv_size], 0, h2⟩
theorem svs_at {L : List (List UInt8)} {j : Nat} (hj : j < L.length) : (svs L)[j]? = some (sv L[j]!) := by
  simp [svs, hj]
/-- are all of them pages? -/
def pgs (L : List (List UInt8)) : Bool := L.all fun x => decide (x.length = 256)
theorem pgs_any (L : List (List UInt8)) : (L.any fun s => decide (s.length ≠ 256)) = !pgs L := by
  rw [pgs, List.not_all_eq_any_not]; congr; funext s; by_cases h : s.length = 256 <;> simp [h]
/-- what Load answers -/
def LdR (w w' : World) (L : List (List UInt8)) (r : Ending) : Prop :=
  Below w.heap.size w w' ∧
  if 4 ≤ L.length ∧ L.length ≤ 4096 then
    if pgs L then ∃ a g b, r = .returned (.tuple #[.pointer (some ⟨a, 0, none⟩), .int .i64 0]) ∧ Dv w' a g b L (fun _ => none) 0 false ∧ w.heap.size ≤ a ∧ w.heap.size ≤ g ∧ w.heap.size ≤ b
    else r = .returned (.tuple #[.pointer none, .int .i64 91])
  else r = .returned (.tuple #[.pointer none, .int .i64 1])
set_option maxRecDepth 100000 in
set_option maxHeartbeats 1000000 in
theorem load_bad (v : Option Addr) (n c : Nat) (w : World) (h : ¬ (4 ≤ n ∧ n ≤ 4096)) :
    Calls Try.prog 11 #[.slice v n c] w fun r w' => r = .returned (.tuple #[.pointer none, .int .i64 1]) ∧ w' = w := by
  have i1 := mayHave_any (n : Int) w
  rw [show decide (4 ≤ (n : Int) ∧ (n : Int) ≤ 4096) = false from decide_eq_false (by omega)] at i1
  go_enter Try.func11, Try.ntmps11
  go_wp2_with (go_at_call 28; refine i1.mono ?_; rintro r w9 ⟨rfl, hw9⟩; replace hw9 := hw9.symm; subst hw9)
  go_ret2
  exact ⟨rfl, rfl⟩
set_option maxRecDepth 100000 in
set_option maxHeartbeats 1000000 in
theorem load_ok (L : List (List UInt8)) (H0 c : Nat) (w : World) (h4 : 4 ≤ L.length) (h96 : L.length ≤ 4096) (hR : w.rangeAt H0 0 (svs L)) :
    Calls Try.prog 11 #[.slice (some ⟨H0, 0, none⟩) L.length c] w fun r w' => LdR w w' L r := by
  have i1 := mayHave_any (L.length : Int) w
  rw [show decide (4 ≤ (L.length : Int) ∧ (L.length : Int) ≤ 4096) = true from decide_eq_true (by omega)] at i1
  have i2 := Try.slices_ContainsFunc (fun s : List UInt8 => sv s) (fun s => decide (s.length ≠ 256)) 32 #[] (enters_of Try.func32 (by kernel_rfl) rfl) H0 0 L.length c L w (isNoPage_pred w) (Nat.le_refl _) (by omega)
    (fun j hj => hR j _ (svs_at hj))
  rw [List.take_length, pgs_any] at i2
  obtain ⟨n, hn⟩ : ∃ n, L.length = n := ⟨_, rfl⟩
  by_cases hp : pgs L = true
  · have i3 := fun w1 (hb : Below w.heap.size w w1) => Try.slices_Clone_string H0 0 L.length c (L.map fun x => ⟨x.toArray⟩) w1 (by simp) (by omega) (fun j hj => by
      have hlt : H0 < w.heap.size := by
        have := hR 0 _ (svs_at (L := L) (j := 0) (by omega))
        have := block_lt_of_cell this
        exact this
      rw [hb.cell (p := ⟨H0, 0 + j, none⟩) hlt, hR j _ (svs_at (by simpa using hj))]
      simp at hj
      simp [sv, hj])
    rw [hp] at i2
    rw [hn] at i1 i2 i3 ⊢
    clear hR
    go_enter Try.func11, Try.ntmps11
    go_wp2_with (first
      | (go_at_call 28; refine i1.mono ?_; rintro r w9 ⟨rfl, hw9⟩; replace hw9 := hw9.symm; subst hw9)
      | (go_at_call 31; refine i2.mono ?_; rintro r w9 ⟨rfl, q, rfl⟩)
      | (go_at_call 33; fail))
    refine (i3 _ (below_drewN' (Below.refl _ _) q)).mono ?_
    rintro r w2 ⟨v', rfl, hrow, hne, hb2⟩
    have hb2 : Below w.heap.size w w2 := (below_drewN' (Below.refl _ _) q).trans hb2
    rcases hrow.2 with ⟨h, _⟩ | ⟨g, cap, cur, rfl, hg, hcur, hnc, hcm, hcs, htk⟩
    · exact absurd h hne
    have hmm := @run_makeMap Try.prog
    have B2 := hid hb2
    have C2 := hid hcur
    have HG : w.heap.size ≤ g := hg
    have T2 := hid htk
    have X1 := hid hn
    have X2 := hid hp
    clear i1 i2 i3 hb2 hcur htk hg hrow hne hn hp
    go_wp2
    go_ret2
    have hb2 := B2.out
    have hcur := C2.out
    have htk := T2.out
    have hn := X1.out
    have hp := X2.out
    have hgl : g < w2.heap.size := lt_of_heap hcur
    have e1 : (w2.alloc (.map #[] 0)).heap.size = w2.heap.size + 1 := size_alloc _ _
    have b3 : Below w2.heap.size w2 (w2.alloc (.map #[] 0)) := (Below.refl _ _).alloc (Nat.le_refl _) _
    have b4 := (b3.alloc (by omega) (.cells #[.slice (some ⟨g, 0, none⟩) n cap, .map (some w2.heap.size), .int .i64 0, .bool false] 84))
    refine ⟨hb2.trans (b4.mono hb2.size), ?_⟩
    rw [if_pos ⟨h4, h96⟩, if_pos hp]
    refine ⟨w2.heap.size + 1, g, w2.heap.size, rfl, ?_, by have := hb2.size; omega, HG, hb2.size⟩
    have hcur4 := (b4.block g hgl).trans hcur
    refine ⟨⟨cap, ?_, by omega, hcm⟩, ?_, ?_, ⟨.map [], ?_, Pn.nil _⟩, by omega, by rw [size_alloc, e1]; omega, h4, h96, fun x hx => ?_, by omega⟩
    · rw [hn]; exact heap_alloc_at _ _ _ e1
    · intro j u hj
      rw [cell_of_row _ _ _ _ _ _ hcur4, Nat.zero_add]
      have hj' : j < n := by have := (List.getElem?_eq_some_iff.1 hj).1; rwa [svs_length, hn] at this
      have : cur.toList[j]? = some u := by
        rw [show cur.toList[j]? = (cur.toList.take (n * 1))[j]? by rw [List.getElem?_take, if_pos (by omega)], htk, ← hj, ← hn, List.take_of_length_le (by simp)]
        simp only [svs, List.map_map]; rfl
      simpa using this
    · exact there_of_row hcur4 0 _ (by omega)
    · exact ((World.ownsMap_made w2 Try.prog 3 wR).alloc _).mono (by omega)
    · exact of_decide_eq_true (List.all_eq_true.1 hp x hx)
  · rw [Bool.not_eq_true] at hp
    rw [hp] at i2
    rw [hn] at i1 i2 ⊢
    have X1 := hid hn
    clear hR hn
    go_enter Try.func11, Try.ntmps11
    go_wp2_with (first
      | (go_at_call 28; refine i1.mono ?_; rintro r w9 ⟨rfl, hw9⟩; replace hw9 := hw9.symm; subst hw9)
      | (go_at_call 31; refine i2.mono ?_; rintro r w9 ⟨rfl, q, rfl⟩))
    go_ret2
    refine ⟨below_drewN' (Below.refl _ _) q, ?_⟩
    rw [if_pos ⟨h4, h96⟩, if_neg (by rw [hp]; exact Bool.false_ne_true)]
    rfl
theorem zp_repeat : Lib.repeatL [0] 256 = zp := by decide +kernel
theorem zps_ok (n : Nat) : pgs (List.replicate n zp) = true := by
  rw [pgs, List.all_eq_true]
  intro x hx
  obtain rfl := List.eq_of_mem_replicate hx
  exact decide_eq_true (by rw [zp, List.length_replicate])
set_option maxRecDepth 100000 in
theorem new_bad (n : Int) (w : World) (h : ¬ (4 ≤ n ∧ n ≤ 4096)) :
    Calls Try.prog 7 #[.int .i64 n] w fun r w' => r = .returned (.tuple #[.pointer none, .int .i64 1]) ∧ w' = w := by
  have i1 := mayHave_any n w
  rw [show decide (4 ≤ n ∧ n ≤ 4096) = false from decide_eq_false h] at i1
  go_enter Try.func7, Try.ntmps7
  go_wp2_with (go_at_call 28; refine i1.mono ?_; rintro r w9 ⟨rfl, hw9⟩; replace hw9 := hw9.symm; subst hw9)
  go_ret2
  exact ⟨rfl, rfl⟩
set_option maxRecDepth 100000 in
set_option maxHeartbeats 1000000 in
theorem new_z (zp : List UInt8) (zp_repeat : Lib.repeatL [0] 256 = zp) (n : Nat) (zps_ok : pgs (List.replicate n zp) = true) (w : World) (h4 : 4 ≤ n) (h96 : n ≤ 4096) :
    Calls Try.prog 7 #[.int .i64 (n : Int)] w fun r w' => ∃ a g b, r = .returned (.tuple #[.pointer (some ⟨a, 0, none⟩), .int .i64 0]) ∧ Dv w' a g b (List.replicate n zp) (fun _ => none) 0 false ∧ w.heap.size ≤ a ∧ w.heap.size ≤ g ∧ w.heap.size ≤ b ∧ Below w.heap.size w w' := by
  have i1 := mayHave_any (n : Int) w
  rw [show decide (4 ≤ (n : Int) ∧ (n : Int) ≤ 4096) = true from decide_eq_true (by omega)] at i1
  have i2 : Calls Try.prog 30 #[.string ⟨#[0]⟩, .int .i64 256] w fun e w' => e = .returned (.string ⟨zp.toArray⟩) ∧ Below w.heap.size w w' := by
    have h := Try.strings_Repeat ⟨#[0]⟩ 256 w (by omega) (by decide)
    have h' := h
    rw [show (⟨#[0]⟩ : ByteArray).data.toList = [0] from rfl, zp_repeat] at h'
    exact h'
  clear zp_repeat
  go_enter Try.func7, Try.ntmps7
  go_wp2_with (first
    | (go_at_call 28; refine i1.mono ?_; rintro r w9 ⟨rfl, hw9⟩; replace hw9 := hw9.symm; subst hw9)
    | (go_at_call 30; refine i2.mono ?_; rintro r w2 ⟨rfl, hb2⟩)
    | (go_at_call 29; fail))
  have b3 := (Below.refl w2.heap.size w2).alloc (Nat.le_refl _) (.cells #[.string ⟨zp.toArray⟩] 9)
  have r3 := heap_alloc_new w2 (.cells #[.string ⟨zp.toArray⟩] 9)
  obtain ⟨w3, hw3⟩ : ∃ w3, w2.alloc (.cells #[.string ⟨zp.toArray⟩] 9) = w3 := ⟨_, rfl⟩
  rw [hw3] at b3 r3 ⊢
  have i3 := repeat_any zp n (by omega) h96 w2.heap.size w3 (by rw [cell_of_row _ _ _ _ _ _ r3]; rfl) (lt_of_heap r3)
  refine i3.mono ?_
  rintro r w4 ⟨rfl, R4, b4⟩
  have i4 := load_ok (List.replicate n zp) w3.heap.size n w4 (by rw [List.length_replicate]; exact h4) (by rw [List.length_replicate]; exact h96) (fun j u hj => by
    rw [cell_of_row _ _ _ _ _ _ R4, Nat.zero_add]; simpa using hj)
  rw [List.length_replicate] at i4
  have B4 := hid ((hb2.trans (b3.mono hb2.size)).trans (b4.mono (Nat.le_trans hb2.size b3.size)))
  clear i1 i2 i3 b3 r3 b4 R4 hb2 hw3
  go_wp2_with (go_at_call 11; refine i4.mono ?_; rintro r w5 ⟨hb5, hr⟩; rw [if_pos ⟨by rw [List.length_replicate]; exact h4, by rw [List.length_replicate]; exact h96⟩, if_pos zps_ok] at hr; obtain ⟨a, g, b, rfl, hD, ha, hg, hb⟩ := hr)
  go_ret2
  have s4 := B4.out.size
  exact ⟨a, g, b, rfl, hD, by omega, by omega, by omega, B4.out.trans (hb5.mono s4)⟩
theorem new_ok (n : Nat) (w : World) (h4 : 4 ≤ n) (h96 : n ≤ 4096) :
    Calls Try.prog 7 #[.int .i64 (n : Int)] w fun r w' => ∃ a g b, r = .returned (.tuple #[.pointer (some ⟨a, 0, none⟩), .int .i64 0]) ∧ Dv w' a g b (List.replicate n zp) (fun _ => none) 0 false ∧ w.heap.size ≤ a ∧ w.heap.size ≤ g ∧ w.heap.size ≤ b ∧ Below w.heap.size w w' :=
  new_z zp zp_repeat n (zps_ok n) w h4 h96
end Go.Proofs.Ytkpfpfjjkcefkaa
