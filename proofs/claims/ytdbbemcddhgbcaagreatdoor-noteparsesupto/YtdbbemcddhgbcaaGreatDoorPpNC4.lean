import Derived.Test.YtdbbemcddhgbcaaGreatDoorPpNC3
import Derived.Test.YtdbbemcddhgbcaaGreatDoorPpW3
import Derived.Test.YtdbbemcddhgbcaaGreatDoorPpW7
import Derived.Test.YtdbbemcddhgbcaaGreatDoorPpR1
import Derived.Deep.QuietTactic
import Derived.Lib.AppendZeros
/- Layer 22: Body and Print, the document's -/
namespace Go.Proofs.YtdbbemcddhgbcaaGreatDoor
open Go.RowKit Go.Shelf
namespace Nt
set_option maxRecDepth 100000 in
set_option maxHeartbeats 4000000 in
theorem rBody22_any (O R : ByteArray) (z : Int) (v : Value) (hO : O.size ≤ 9223372036854775807) (w : World) (T : ByteArray) (c : Int) (hT : bodyA O z R = (T, c)) : Calls Tryz.prog 19 #[nv O z R v] w fun q w' => q = .returned (.tuple #[.string T, .int .i64 c]) ∧ Below w.heap.size w w' := by
  have B0 := hid ((Below.refl w.heap.size w).alloc (Nat.le_refl _) (.cells #[.string O, .int .i64 z, .string R, v] 26))
  have S0 := hid (Bx.new w O z R v)
  obtain ⟨W, hW⟩ : ∃ W, w.alloc (.cells #[.string O, .int .i64 z, .string R, v] 26) = W := ⟨_, rfl⟩
  unfold Hid at B0 S0
  rw [hW] at B0 S0
  obtain ⟨g, hg⟩ : ∃ g, w.heap.size = g := ⟨_, rfl⟩
  rw [hg] at S0
  obtain ⟨B, hB⟩ : ∃ B, bdB O z R = B := ⟨_, rfl⟩
  have i1 := fun w' => rbodied_any O R z v hO B hB w'
  have p0 := S0.c0
  have p1 := S0.c1
  have p2 := S0.c2
  have p3 := S0.c3
  have B0 := hid B0
  have S0 := hid S0
  have HG := hid hg
  have HW := hid hW
  clear hg hW
  unfold bodyA at hT
  unfold nv at *
  go_enter Tryz.func19, Tryz.ntmps19
  go_upto_region 1 with fail
  rw [HW.out, HG.out]
  cases B with
  | false =>
    rw [hB, if_neg Bool.false_ne_true] at hT
    obtain ⟨rfl, rfl⟩ := Prod.mk.inj hT
    clear hT hB
    go_wp2_with (go_at_call 39; (refine (i1 _).mono ?_); rintro q w1 ⟨rfl, b1⟩)
    go_ret2
    exact ⟨rfl, B0.out.trans (b1.mono B0.out.size)⟩
  | true =>
    have pt := bdB_parts hB
    rw [hB, if_pos rfl] at hT
    obtain ⟨rfl, rfl⟩ := Prod.mk.inj hT
    obtain ⟨Z, hZ⟩ : ∃ Z : Nat, z = (Z : Int) := ⟨z.toNat, by omega⟩
    subst hZ
    have i2 := fun w1 => rbody_any O R Z v (by omega) (by omega) (by omega) w1
    unfold nv at *
    clear hT hB pt
    go_wp2_with (first
      | (go_at_call 39; (refine (i1 _).mono ?_); rintro q w1 ⟨rfl, b1⟩; have s1 := S0.out.below b1; have r0 := s1.c0; have r1 := s1.c1; have r2 := s1.c2; have r3 := s1.c3; clear s1)
      | (go_at_call 27; (refine (i2 _).mono ?_); rintro q w2 ⟨rfl, b2⟩))
    go_ret2
    exact ⟨rfl, B0.out.trans ((b1.trans (b2.mono b1.size)).mono B0.out.size)⟩
theorem bdT_size (O R : ByteArray) (z : Int) (hO : O.size ≤ 1000) (hR : R.size ≤ 1000) (h0 : -9223372036854775808 ≤ z) (h1 : z ≤ 9223372036854775807) : (bdT O z R).size ≤ 4000 := by
  unfold bdT
  rw [sv_size]
  have h1 := iT_size z h0 h1
  have h2 := bT_size R
  simp [lnL]
  omega
set_option maxRecDepth 100000 in
set_option maxHeartbeats 8000000 in
theorem rPrint22_any (O R : ByteArray) (z : Int) (hO : O.size ≤ 9223372036854775807) (S : List Sg) (n : Nat) (hn : Hid (S.length = n)) (hn2 : n ≤ 9223372036854775807) (hS : ∀ x ∈ S, x.1.size ≤ 9223372036854775807) (a : Option Addr) (cp : Nat) (w : World) (hA : AtS w a S) (T : ByteArray) (c : Int) (hT : prtA O z R S = (T, c)) : Calls Tryz.prog 11 #[nv O z R (.slice a n cp)] w fun q w' => q = .returned (.tuple #[.string T, .int .i64 c]) ∧ Below w.heap.size w w' := by
  have B0 := hid ((Below.refl w.heap.size w).alloc (Nat.le_refl _) (.cells #[.string O, .int .i64 z, .string R, .slice a n cp] 26))
  have S0 := hid (Bx.new w O z R (.slice a n cp))
  have HA := hid (hA.below B0.out)
  obtain ⟨W, hW⟩ : ∃ W, w.alloc (.cells #[.string O, .int .i64 z, .string R, .slice a n cp] 26) = W := ⟨_, rfl⟩
  unfold Hid at B0 S0 HA
  rw [hW] at B0 S0 HA
  obtain ⟨g, hg⟩ : ∃ g, w.heap.size = g := ⟨_, rfl⟩
  rw [hg] at S0
  obtain ⟨x, hx⟩ : ∃ x, wrongN O z R S = x := ⟨_, rfl⟩
  have i1 := rwrong_any O R z hO S n hn hn2 hS a cp W HA x hx
  have p0 := S0.c0
  have p1 := S0.c1
  have p2 := S0.c2
  have p3 := S0.c3
  have B0 := hid B0
  have S0 := hid S0
  have HA := hid HA
  have HG := hid hg
  have HW := hid hW
  clear hg hW hA hS
  unfold prtA at hT
  rw [hx] at hT
  unfold nv at *
  go_enter Tryz.func11, Tryz.ntmps11
  go_upto_region 1 with fail
  rw [HW.out, HG.out]
  by_cases hx0 : x = 0
  · subst hx0
    rw [if_pos rfl] at hT
    obtain ⟨rfl, rfl⟩ := Prod.mk.inj hT
    obtain ⟨q1, q2, q3⟩ := wrongN_zero hx
    have pt := bdB_parts q1
    obtain ⟨Z, hZ⟩ : ∃ Z : Nat, z = (Z : Int) := ⟨z.toNat, by omega⟩
    subst hZ
    have i2 := fun w1 => rbody_any O R Z (.slice a n cp) (by omega) (by omega) (by omega) w1
    unfold nv at i2
    have bz := bdT_size O R (Z : Int) (by omega) (by omega) (by omega) (by omega)
    have n16 : n ≤ 16 := by rw [← hn.out]; exact q2
    have a1 : ¬ 9223372036854775807 < (bdT O (Z : Int) R).size + 1 := by omega
    have HS := hid q3
    clear hT hx q1 q2 q3 pt
    go_upto_region 5 with (first
      | (go_at_call 26; (refine i1.mono ?_); rintro q w1 ⟨rfl, b1⟩; have s1 := S0.out.below b1; have r0 := s1.c0; have r1 := s1.c1; have r2 := s1.c2; have r3 := s1.c3; clear s1)
      | (go_at_call 27; (refine (i2 _).mono ?_); rintro q w2 ⟨rfl, b2⟩))
    have B2 := hid (b1.trans (b2.mono b1.size))
    clear b1 b2 i1 i2 p0 p1 p2 p3 r0 r1 r2 r3
    obtain ⟨P0, hP0⟩ : ∃ P, bdT O (Z : Int) R ++ ⟨#[10]⟩ = P := ⟨_, rfl⟩
    rw [hP0]
    have HP := hid hP0
    have BZ := hid bz
    clear hP0 a1 bz
    go_wp2
    go_loopw [5, 6, 7] (fun s i _ w' => ∃ (j : Nat) (P : ByteArray), j ≤ n ∧ i = .int .i64 (j : Int) ∧ s = .string P ∧ Hid (P.data.toList = (bdT O (Z : Int) R).data.toList ++ [10] ++ ((S.take j).map fun x => (sgL x).data.toList).flatten) ∧ Hid (P.size ≤ 4001 + j * 20001) ∧ Hid (Below W.heap.size W w')) (fun _ i _ _ => n - (intOf i).toNat)
    case atStart => exact ⟨0, P0, by omega, rfl, rfl, by unfold Hid; rw [← HP.out]; simp [ByteArray.data_append], by unfold Hid; rw [← HP.out, ByteArray.size_append]; have := BZ.out; show _ + 1 ≤ _; omega, B2.out⟩
    case round =>
      obtain ⟨j, P, hj, rfl, rfl, hP, hZ, hB⟩ := hrel
      have q3 := (S0.out.below hB.out).c3
      by_cases hjn : j < n
      · have e0 : (j : Int) < (n : Int) := by omega
        have j0 : (0 : Int) ≤ (j : Int) := by omega
        obtain ⟨y, hy⟩ : ∃ y, S[j]? = some y := ⟨_, List.getElem?_eq_getElem (by rw [hn.out]; exact hjn)⟩
        have hys := HS.out y (List.mem_of_getElem? hy)
        have htk : ((S.take (j + 1)).map fun x => (sgL x).data.toList).flatten = ((S.take j).map fun x => (sgL x).data.toList).flatten ++ (sgL y).data.toList := by rw [List.take_add_one, hy]; simp
        have HTK := hid htk
        have hsz := sgL_size y (by omega) (by omega)
        have eL : (sgL y).data.toList = [45, 32] ++ y.1.data.toList ++ [32] ++ (bT y.2).data.toList ++ [10] := by
          unfold sgL sgT
          simp [lnL, ByteArray.data_append]
        obtain ⟨N, D⟩ := y
        obtain ⟨p, rfl, hp, x1, x2⟩ := (HA.out.below hB.out) j _ hy
        have i3 := fun w' => rb64T_any D (by have := hys.2; simp only at this; omega) w'
        simp only at eL hys
        have bb := bT_size D
        obtain ⟨BD, hBD⟩ : ∃ q, bT D = q := ⟨_, rfl⟩
        rw [hBD] at i3 eL bb
        have zz := hZ.out
        have jj : j * 20001 ≤ 320016 := by omega
        have a1 : ¬ 9223372036854775807 < P.size + 2 := by omega
        have a2 : ¬ 9223372036854775807 < P.size + 2 + N.size := by omega
        have a3 : ¬ 9223372036854775807 < P.size + 2 + N.size + 1 := by omega
        have a4 : ¬ 9223372036854775807 < P.size + 2 + N.size + 1 + BD.size := by omega
        have a5 : ¬ 9223372036854775807 < P.size + 2 + N.size + 1 + BD.size + 1 := by omega
        have ZN : Hid (P.size + 2 + N.size + 1 + BD.size + 1 ≤ 4001 + (j + 1) * 20001) := by
          unfold Hid
          have e1 : (sgL (N, D)).size = 2 + N.size + 1 + BD.size + 1 := by
            rw [← data_length, eL]
            simp
            omega
          omega
        have EL := hid eL
        have bA := (Below.refl wr.heap.size wr).alloc (Nat.le_refl _) (.cells #[.string N, .string D] 32)
        have sA := heap_alloc_new wr (.cells #[.string N, .string D] 32)
        clear hys htk hsz eL bb zz jj hBD hy
        go_upto_region 9 with fail
        obtain ⟨V, hV⟩ : ∃ V, wr.alloc (.cells #[.string N, .string D] 32) = V := ⟨_, rfl⟩
        obtain ⟨g5, hg5⟩ : ∃ g, wr.heap.size = g := ⟨_, rfl⟩
        rw [hV] at bA sA ⊢
        rw [hg5] at sA ⊢
        have BV := hid (hB.out.trans (bA.mono hB.out.size))
        have SV := hid sA
        clear hV hg5 x1 x2 bA sA q3 hB
        have cs : ∀ w' : World, Below V.heap.size V w' → w'.cell? ⟨g5, 0, none⟩ = some (.string N) ∧ w'.cell? ⟨g5, 1, none⟩ = some (.string D) := fun w' bb => by
          have s5 := (bb.block g5 (lt_of_heap SV.out)).trans SV.out
          exact ⟨by rw [cell_of_row w' g5 0 _ _ _ s5]; rfl, by rw [cell_of_row w' g5 1 _ _ _ s5]; rfl⟩
        have d0 := cs V (Below.refl _ _)
        have CS := hid cs
        clear cs
        go_region_held3 (fun W => W.cell? ⟨g5, 0, none⟩ = some (.string N) ∧ W.cell? ⟨g5, 1, none⟩ = some (.string D)) (first | exact d0 | exact d5) (first
          | (go_at_call 28; (refine (i3 _).mono ?_); rintro q w5 ⟨rfl, b5⟩; have b5 := (bw_drew V).trans b5; have d5 := CS.out w5 b5; have B5 := hid (BV.out.trans (b5.mono BV.out.size)); clear b5))
        have HQ : Hid ((((((P ++ ⟨#[45, 32]⟩) ++ N) ++ ⟨#[32]⟩) ++ BD) ++ ⟨#[10]⟩).data.toList = (bdT O (Z : Int) R).data.toList ++ [10] ++ ((S.take (j + 1)).map fun x => (sgL x).data.toList).flatten) := by
          unfold Hid
          rw [HTK.out, EL.out, ← List.append_assoc, ← hP.out]
          simp [ByteArray.data_append]
        have HZ : Hid ((((((P ++ ⟨#[45, 32]⟩) ++ N) ++ ⟨#[32]⟩) ++ BD) ++ ⟨#[10]⟩).size ≤ 4001 + (j + 1) * 20001) := by
          unfold Hid
          have := ZN.out
          simp only [ByteArray.size_append]
          exact this
        obtain ⟨P2, hP2⟩ : ∃ P2, (((((P ++ ⟨#[45, 32]⟩) ++ N) ++ ⟨#[32]⟩) ++ BD) ++ ⟨#[10]⟩) = P2 := ⟨_, rfl⟩
        unfold Hid at HQ HZ
        rw [hP2] at HQ HZ ⊢
        have HQ := hid HQ
        have HZ := hid HZ
        clear a1 a2 a3 a4 a5 hP2
        go_wp2
        exact ⟨⟨j + 1, P2, by omega, by go_num, rfl, HQ, HZ, B5⟩, by simp [intOf]; omega⟩
      · obtain rfl : n = j := by omega
        have e0 : ¬ (n : Int) < (n : Int) := by omega
        have htk : S.take n = S := List.take_of_length_le (by rw [hn.out]; exact Nat.le_refl _)
        rw [htk] at hP
        have he : P = ntT O (Z : Int) R S := ba_ext (by rw [hP.out]; unfold ntT; simp)
        have HE := hid he
        clear he
        go_wp2
        go_ret2
        exact ⟨by rw [HE.out]; rfl, B0.out.trans (hB.out.mono B0.out.size)⟩
  · rw [if_neg hx0] at hT
    obtain ⟨rfl, rfl⟩ := Prod.mk.inj hT
    have e0 : (x == 0) = false := by simp; omega
    have HX := hid hx
    clear hT hx
    go_wp2_with (go_at_call 26; (refine i1.mono ?_); rintro q w1 ⟨rfl, b1⟩)
    go_ret2
    exact ⟨rfl, B0.out.trans (b1.mono B0.out.size)⟩
end Nt
end Go.Proofs.YtdbbemcddhgbcaaGreatDoor

namespace Go.Proofs.YtdbbemcddhgbcaaGreatDoor
namespace Wz
/-- the four high bits and the four low ones of each byte -/
def hl (A : List UInt8) : List Nat := A.flatMap fun b => [b.toNat / 16, b.toNat % 16]
/-- the sum of 15 less each digit -/
def sm (l : List Nat) : Nat := (l.map (15 - ·)).sum
/-- the digits of a digest -/
def dg (A : List UInt8) : List Nat := hl A ++ [sm (hl A) / 256, sm (hl A) / 16 % 16, sm (hl A) % 16]
theorem hl_len (A : List UInt8) : (hl A).length = 2 * A.length := by
  induction A with
  | nil => rfl
  | cons b A ih => show (([_, _] ++ hl A : List Nat)).length = _; simp [ih]; omega
theorem hl_cons (b : UInt8) (A : List UInt8) : hl (b :: A) = b.toNat / 16 :: b.toNat % 16 :: hl A := rfl
theorem hl_snoc (A : List UInt8) (b : UInt8) : hl (A ++ [b]) = hl A ++ [b.toNat / 16, b.toNat % 16] := by simp [hl]
theorem hl_take (A : List UInt8) {i : Nat} (h : i < A.length) : hl (A.take (i + 1)) = hl (A.take i) ++ [A[i].toNat / 16, A[i].toNat % 16] := by
  rw [List.take_succ_eq_append_getElem h, hl_snoc]
theorem hl_lt (A : List UInt8) : ∀ x ∈ hl A, x ≤ 15 := by
  intro x hx
  simp only [hl, List.mem_flatMap, List.mem_cons, List.not_mem_nil, or_false] at hx
  obtain ⟨b, _, h | h⟩ := hx
  · have := b.toNat_lt; omega
  · omega
theorem sm_append (l m : List Nat) : sm (l ++ m) = sm l + sm m := by simp [sm]
theorem sm_le (l : List Nat) : sm l ≤ 15 * l.length := by
  induction l with
  | nil => simp [sm]
  | cons a l ih => simp only [sm, List.map_cons, List.sum_cons, List.length_cons] at *; omega
theorem sm_take (l : List Nat) {i : Nat} (h : i < l.length) : sm (l.take (i + 1)) = sm (l.take i) + (15 - l[i]) := by
  rw [List.take_succ_eq_append_getElem h, sm_append]; simp [sm]
theorem dg_len (A : List UInt8) (h : A.length = 32) : (dg A).length = 67 := by simp [dg, hl_len, h]
theorem dg_lt (A : List UInt8) (h : A.length = 32) : ∀ x ∈ dg A, x ≤ 15 := by
  intro x hx
  have h1 := sm_le (hl A)
  rw [hl_len, h] at h1
  simp only [dg, List.mem_append, List.mem_cons, List.not_mem_nil, or_false] at hx
  rcases hx with hx | hx | hx | hx
  · exact hl_lt A x hx
  · omega
  · omega
  · omega
theorem dg_at (A : List UInt8) (h : A.length = 32) {i : Nat} (hi : i < 64) : (dg A).getD i 0 = (hl A).getD i 0 := by
  simp only [dg, List.getD_eq_getElem?_getD]
  rw [List.getElem?_append_left (by rw [hl_len]; omega)]
theorem dg_end (A : List UInt8) (h : A.length = 32) (k : Nat) : (dg A).getD (64 + k) 0 = [sm (hl A) / 256, sm (hl A) / 16 % 16, sm (hl A) % 16].getD k 0 := by
  simp only [dg, List.getD_eq_getElem?_getD]
  rw [List.getElem?_append_right (by rw [hl_len]; omega), hl_len, h]
  congr 2; omega
theorem dg_take (A : List UInt8) (h : A.length = 32) {i : Nat} (hi : i ≤ 64) : (dg A).take i = (hl A).take i := by
  rw [dg, List.take_append_of_le_length (by rw [hl_len]; omega)]
/-- the pair of digits is the byte -/
theorem dg_byte (A : List UInt8) (h : A.length = 32) {i : Nat} (hi : i < 32) : 16 * (dg A).getD (2 * i) 0 + (dg A).getD (2 * i + 1) 0 = (A.getD i 0).toNat := by
  rw [dg_at A h (by omega), dg_at A h (by omega)]
  clear h
  induction A generalizing i with
  | nil => simp [hl]
  | cons b A ih =>
    rw [hl_cons]
    cases i with
    | zero => simp; omega
    | succ i =>
      have := ih (i := i) (by omega)
      simpa [show 2 * (i + 1) = 2 * i + 1 + 1 by omega, show 2 * (i + 1) + 1 = 2 * i + 1 + 1 + 1 by omega] using this
theorem hl_inj : ∀ {A B : List UInt8}, hl A = hl B → A = B
  | [], [], _ => rfl
  | [], _ :: _, h => by simp [hl] at h
  | _ :: _, [], h => by simp [hl] at h
  | a :: A, b :: B, h => by
    rw [hl_cons, hl_cons] at h
    injection h with h1 h2
    injection h2 with h2 h3
    have := hl_inj h3
    subst this
    have h4 : a.toNat = b.toNat := by omega
    rw [UInt8.toNat_inj.1 h4]
theorem sm_anti : ∀ {l m : List Nat}, l.length = m.length → (∀ x ∈ l, x ≤ 15) → (∀ x ∈ m, x ≤ 15) → (∀ i, l.getD i 0 ≤ m.getD i 0) → sm m ≤ sm l ∧ (sm m = sm l → l = m)
  | [], [], _, _, _, _ => ⟨Nat.le_refl _, fun _ => rfl⟩
  | [], _ :: _, h, _, _, _ => by simp at h
  | _ :: _, [], h, _, _, _ => by simp at h
  | a :: l, b :: m, h, h1, h2, h3 => by
    obtain ⟨i1, i2⟩ := sm_anti (l := l) (m := m) (by simpa using h) (fun x hx => h1 x (by simp [hx])) (fun x hx => h2 x (by simp [hx])) (fun i => by simpa using h3 (i + 1))
    have h0 : a ≤ b := by simpa using h3 0
    have ha := h1 a (by simp)
    have hb := h2 b (by simp)
    simp only [sm, List.map_cons, List.sum_cons] at *
    refine ⟨by omega, fun e => ?_⟩
    have : a = b := by omega
    subst this
    rw [i2 (by omega)]
/-- of two digests that are not the same the one has a digit above the other one's -/
theorem above {A B : List UInt8} (hA : A.length = 32) (hB : B.length = 32) (hne : A ≠ B) : ∃ i, i < 67 ∧ (dg B).getD i 0 < (dg A).getD i 0 := by
  refine Classical.byContradiction fun hn => hne ?_
  have hle : ∀ i, i < 67 → (dg A).getD i 0 ≤ (dg B).getD i 0 := fun i hi => Nat.le_of_not_lt fun h => hn ⟨i, hi, h⟩
  obtain ⟨h1, h2⟩ := sm_anti (l := hl A) (m := hl B) (by rw [hl_len, hl_len, hA, hB]) (hl_lt A) (hl_lt B) (fun i => by
    by_cases hi : i < 64
    · have := hle i (by omega); rwa [dg_at A hA hi, dg_at B hB hi] at this
    · rw [List.getD_eq_getElem?_getD, List.getElem?_eq_none (by rw [hl_len]; omega)]; exact Nat.zero_le _)
  have e0 := hle 64 (by omega)
  have e1 := hle 65 (by omega)
  have e2 := hle 66 (by omega)
  rw [dg_end A hA 0, dg_end B hB 0] at e0
  rw [dg_end A hA 1, dg_end B hB 1] at e1
  rw [dg_end A hA 2, dg_end B hB 2] at e2
  simp at e0 e1 e2
  exact hl_inj (h2 (by omega))
/-- has one of the first k a digit above the other one's -/
def upB (a b : List Nat) (k : Nat) : Bool := (List.range k).any fun j => decide (b.getD j 0 < a.getD j 0)
theorem upB_succ (a b : List Nat) (k : Nat) : upB a b (k + 1) = (upB a b k || decide (b.getD k 0 < a.getD k 0)) := by
  simp [upB, List.range_succ, List.any_append]
theorem upB_self (a : List Nat) (k : Nat) : upB a a k = false := by simp [upB]
theorem upB_above {A B : List UInt8} (hA : A.length = 32) (hB : B.length = 32) (hne : A ≠ B) : upB (dg A) (dg B) 67 = true := by
  obtain ⟨i, h1, h2⟩ := above hA hB hne
  simp only [upB, List.any_eq_true, List.mem_range, decide_eq_true_eq]
  exact ⟨i, h1, h2⟩
end Wz
end Go.Proofs.YtdbbemcddhgbcaaGreatDoor

/- Layer 20: digits of both -/
namespace Go.Proofs.YtdbbemcddhgbcaaGreatDoor
open Go.RowKit
namespace Wz
def ivn (l : List Nat) : List Value := l.map fun (n : Nat) => .int .i64 (n : Int)
theorem ivn_len (l : List Nat) : (ivn l).length = l.length := by simp [ivn]
theorem ivn_append (l m : List Nat) : ivn (l ++ m) = ivn l ++ ivn m := by simp [ivn]
theorem ivn_at {l : List Nat} {j n : Nat} (h : l[j]? = some n) : (ivn l)[j]? = some (.int .i64 (n : Int)) := by simp [ivn, h]
theorem infoW : (Tryz.prog.info? 3).map (fun i => (i.zero, i.size, i.bytes)) = some (some (.int .i64 0), 1, 8) := by kernel_rfl
theorem grown_below {w0 w w' : World} {v : Value} {cs : List Value} (h0 : Below w0.heap.size w0 w) (hO : Own w w0.heap.size v cs) (g : w.grownBy w' v.ownBlock) : Below w0.heap.size w0 w' := by
  obtain ⟨g1, g2, g3, g4, g5⟩ := g
  refine ⟨g1.trans h0.os, g2.trans h0.tape, g3.trans h0.output, Nat.le_trans h0.size g4, fun k hk => (g5 k (Nat.lt_of_lt_of_le hk h0.size) ?_).trans (h0.block k hk)⟩
  intro e
  have := hO.ge k e.symm
  omega
/-- append of some numbers -/
theorem append_w (w0 w : World) (v : Value) (l xs : List Nat) (hB : Below w0.heap.size w0 w) (h : Own w w0.heap.size v (ivn l)) (hl : l.length ≤ 1000) (h0 : 0 < xs.length) (hx : xs.length ≤ 3) :
    ∃ v' w', (Builtin.append_ #[172, 172] 172 #[v, .slice (some ⟨w.heap.size, 0, none⟩) xs.length xs.length]).run Tryz.prog (w.alloc (.cells (ivn xs).toArray 3)) = .ok v' w' ∧ Own w' w0.heap.size v' (ivn (l ++ xs)) ∧ Below w0.heap.size w0 w' := by
  obtain ⟨i0, hi, hz0, hz1, hz2⟩ := info_parts infoW
  have hsrc : Src Tryz.prog 1 172 (.slice (some ⟨w.heap.size, 0, none⟩) xs.length xs.length) xs.length (ivn xs) (w.alloc (.cells (ivn xs).toArray 3)) :=
    Src.ofSlice _ Tryz.underlying172 ⟨w.heap.size, 0, none⟩ _ _ _ (by rw [ivn_len, Nat.mul_one]) (fun j u hj => by
      rw [Addr.add_mid, cell_of_row _ _ _ _ _ _ (heap_alloc_new w _), Nat.zero_add]; simpa using hj) (fun u hu => by
      simp only [ivn, List.mem_map] at hu
      obtain ⟨n, _, rfl⟩ := hu
      rfl)
  have hO := h.alloc (.cells (ivn xs).toArray 3)
  have hB2 : Below w0.heap.size w0 (w.alloc (.cells (ivn xs).toArray 3)) := hB.alloc hB.size _
  obtain ⟨v', w', a1, a2, a3, _⟩ := run_append_O (P := Tryz.prog) _ _ 172 172 172 3 i0 (.int .i64 0) Tryz.underlying172 hi hz0 hz1 rfl v (ivn l) hO _ _ _ hsrc
    (by rw [hz2, ivn_len]; omega) (by rw [ivn_len, maxLen]; omega) (by rw [size_alloc]; have := hB.size; omega) (fun _ => h0)
  rw [← ivn_append] at a2
  exact ⟨v', w', a1, a2, grown_below hB2 hO a3⟩
end Wz
end Go.Proofs.YtdbbemcddhgbcaaGreatDoor

/- Layer 20: the program's digits -/
namespace Go.Proofs.YtdbbemcddhgbcaaGreatDoor
open Go.RowKit
namespace Wz
theorem index_w (s : ByteArray) (i : Int) (k : Nat) (hi : i = (k : Int)) (h : k < s.size) :
    ∃ x : Nat, Hid (x = (s.data.toList.getD k 0).toNat) ∧ x < 256 ∧ ∀ w, (Instr.index 9 (.string s) (.int .i64 i)).run Tryz.prog w = .ok (.int .u8 (x : Int)) w := by
  refine ⟨_, rfl, UInt8.toNat_lt _, fun w => ?_⟩
  subst hi
  rw [run_index_string w 9 s .i64 (k : Int) Tryz.underlying9]
  simp [h]
  rfl
theorem make_W (w : World) (c : Nat) (hc : c ≤ 1000) :
    ∃ w', (Instr.makeSlice 172 (.int .i64 0) (.int .i64 (c : Int))).run Tryz.prog w = .ok (.slice (some ⟨w.heap.size, 0, none⟩) 0 c) w' ∧ Own w' w.heap.size (.slice (some ⟨w.heap.size, 0, none⟩) 0 c) (ivn []) ∧ Below w.heap.size w w' := by
  obtain ⟨i0, hi, hz0, hz1, hz2⟩ := info_parts infoW
  obtain ⟨w', h1, h2, h3⟩ := run_make_own (P := Tryz.prog) w w.heap.size 172 3 i0 (.int .i64 0) 1 Tryz.underlying172 hi hz0 hz1 .i64 .i64 c (by rw [hz2]; omega) (by rw [maxLen]; omega) (Nat.le_refl _)
  refine ⟨w', h1, ?_, Below.ofGrown (v := .slice none 0 0) h3 (fun k hk => by cases hk) (Nat.le_refl _)⟩
  rcases h2.2 with ⟨h, _⟩ | ⟨g, cap, cur, hv, hg, hh, _, hm, hs, _⟩
  · cases h
  · injection hv with e1 e2 e3
    injection e1 with e1
    injection e1 with e1
    subst e1 e3
    exact .inr ⟨_, _, rfl, Nat.le_refl _, by simp [ivn], hm, fun j v hj => by simp [ivn] at hj, there_of_row hh 0 _ (by rw [hs]; omega), lt_of_heap hh⟩
theorem sm_two (A : List UInt8) {i : Nat} (h : i < A.length) : sm (hl (A.take (i + 1))) = sm (hl (A.take i)) + (15 - A[i].toNat / 16) + (15 - A[i].toNat % 16) := by
  rw [hl_take A h, sm_append]; simp [sm]; omega
set_option maxRecDepth 100000 in
set_option maxHeartbeats 1000000 in
/-- the digits of a digest, in a list of one's own -/
theorem digitsOf_any (d : ByteArray) (hd : d.size = 32) (A : List UInt8) (hA : Hid (d.data.toList = A)) (w : World) :
    Calls Tryz.prog 151 #[.string d] w fun e w' => ∃ v, e = .returned v ∧ Own w' w.heap.size v (ivn (dg A)) ∧ Below w.heap.size w w' := by
  have hAl : A.length = 32 := by rw [← hA.out, data_length, hd]
  have hlen : (d.size : Int) = 32 := by omega
  obtain ⟨w1, hmk, O1, B1⟩ := make_W w 67 (by omega)
  rw [show ((67 : Nat) : Int) = 67 from rfl] at hmk
  have O1 := hid O1
  have B1 := hid B1
  go_enter Tryz.func151, Tryz.ntmps151
  go_wp2
  clear hmk
  go_loopw [3, 4, 11] (fun v s i w' => ∃ k : Nat, k ≤ 32 ∧ i = .int .i64 (k : Int) ∧ s = .int .i64 ((sm (hl (A.take k)) : Nat) : Int) ∧ Hid (Own w' w.heap.size v (ivn (hl (A.take k)))) ∧ Hid (Below w.heap.size w w')) (fun _ _ i _ => 32 - (intOf i).toNat)
  case atStart => exact ⟨0, by omega, rfl, rfl, O1, B1⟩
  case round =>
    clear O1 B1
    obtain ⟨k, hk, rfl, rfl, hO, hB⟩ := hrel
    have hsl := sm_le (hl (A.take k))
    rw [hl_len, List.length_take] at hsl
    have hll : (hl (A.take k)).length ≤ 64 := by rw [hl_len, List.length_take]; omega
    by_cases hlt : k < 32
    · have c1 : (k : Int) < 32 := by omega
      have c2 : (k : Int) < (d.size : Int) := by omega
      obtain ⟨x, hx, lx, ix⟩ := index_w d (k : Int) k rfl (by omega)
      have hkA : k < A.length := by omega
      have ex : A[k].toNat = x := by rw [hx.out, hA.out, List.getD_eq_getElem?_getD, List.getElem?_eq_getElem hkA]; rfl
      have e1 := hl_take A hkA
      have e2 := sm_two A hkA
      rw [ex] at e1 e2
      have E1 := hid e1
      have E2 := hid e2
      clear e1 e2 hx hkA ex
      go_wp2
      go_quiet (fail)
      have hO1 := hO.out.drewN nq
      have hB1 : Below w.heap.size w (wr.drewN nq) := ⟨hB.out.os, hB.out.tape, hB.out.output, hB.out.size, hB.out.block⟩
      obtain ⟨v', w', hap, O', B'⟩ := append_w w (wr.drewN nq) u3 (hl (A.take k)) [x / 16, x % 16] hB1 hO1 (by omega) (by simp) (by simp)
      rw [← E1.out] at O'
      have O' := hid O'
      have B' := hid B'
      rw [show (ivn [x / 16, x % 16]).toArray = #[.int .i64 ((x : Int) / 16), .int .i64 ((x : Int) % 16)] from by simp [ivn], show [x / 16, x % 16].length = 2 from rfl] at hap
      clear hO hB hO1 hB1 E1
      have d1 : (x : Int) / 16 ≤ 15 := by omega
      have d2 : (0 : Int) ≤ (x : Int) / 16 := by omega
      have d3 : (x : Int) % 16 ≤ 15 := by omega
      have d4 : (0 : Int) ≤ (x : Int) % 16 := by omega
      have E2 := E2.out
      have hs2 : ((sm (hl (A.take k)) : Nat) : Int) + (30 - (x : Int) / 16 - (x : Int) % 16) = ((sm (hl (A.take (k + 1))) : Nat) : Int) := by omega
      generalize sm (hl (A.take k)) = S at *
      clear E2
      generalize wr.drewN nq = wq at *
      go_wp2_with (at_builtin; go_must (refine Lib.wpList_append_run _ rfl _ _ 172 172 rfl _ _ rfl rfl _ _ hap ?_))
      exact ⟨⟨k + 1, by omega, by go_num, rfl, O', B'⟩, by simp [intOf]; omega⟩
    · obtain rfl : k = 32 := by omega
      have c1 : ¬ (32 : Int) < 32 := by omega
      rw [List.take_of_length_le (by omega)] at hO hsl
      have hl64 : (hl A).length = 64 := by rw [hl_len, hAl]
      obtain ⟨v', w', hap, O', B'⟩ := append_w w wr u3 (hl A) [sm (hl A) / 256, sm (hl A) / 16 % 16, sm (hl A) % 16] hB.out hO.out (by omega) (by simp) (by simp)
      have O' := hid (show Own w' w.heap.size v' (ivn (dg A)) from O')
      have B' := hid B'
      clear hO hB hll
      rw [List.take_of_length_le (by omega)]
      obtain ⟨S, hS⟩ : ∃ S, sm (hl A) = S := ⟨_, rfl⟩
      rw [hS] at hap hsl
      rw [show (ivn [S / 256, S / 16 % 16, S % 16]).toArray = #[.int .i64 ((S : Int) / 16 / 16), .int .i64 ((S : Int) / 16 % 16), .int .i64 ((S : Int) % 16)] from by simp [ivn]; omega, show [S / 256, S / 16 % 16, S % 16].length = 3 from rfl] at hap
      simp only [hS]
      clear hS
      have s0 : (0 : Int) ≤ (S : Int) := by omega
      have s1 : (S : Int) ≤ 960 := by omega
      go_wp2_with (at_builtin; go_must (refine Lib.wpList_append_run _ rfl _ _ 172 172 rfl _ _ rfl rfl _ _ hap ?_))
      go_ret
      exact ⟨_, rfl, O'.out, B'.out⟩
set_option maxRecDepth 100000 in
set_option maxHeartbeats 1000000 in
theorem digits_any (s : ByteArray) (ht : s.size ≤ 2305843009213690000) (A : List UInt8) (hA : Hid (Sha.sha (109 :: s.data.toList) = A)) (w : World) (T : Tabs w) :
    Calls Tryz.prog 127 #[.string s] w fun e w' => ∃ v, e = .returned v ∧ Own w' w.heap.size v (ivn (dg A)) ∧ Below w.heap.size w w' := by
  have hT := T.lt
  obtain ⟨d, hD⟩ : ∃ d, Hid (sv A = .string d) := ⟨_, rfl⟩
  have hd : d.data.toList = A := by
    have := hD.out
    rw [sv] at this
    injection this with this
    rw [← this]
  have hds : d.size = 32 := by rw [← data_length, hd, ← hA.out, Sha.sha_length]
  go_enter Tryz.func127, Tryz.ntmps127
  go_wp2_with (go_at_call 131; fail)
  have hsl := data_length s
  have hs := sum_any w.heap.size 0 2 [[109], s.data.toList] (by simp [total]; omega) (by simp [maxLen]) (w.alloc (.cells #[sv [109], sv s.data.toList] 9)) (T.below ((Below.refl _ _).alloc (Nat.le_refl _) _) hT) (by rw [size_alloc]; omega) (texts2 w [109] s.data.toList _)
  rw [show ([[109], s.data.toList] : List (List UInt8)).flatten = 109 :: s.data.toList by simp, hA.out, hD.out] at hs
  refine hs.mono ?_
  clear hs
  rintro e w1 ⟨rfl, hw1⟩
  have B1 : Below w.heap.size w w1 := ((Below.refl _ _).alloc (Nat.le_refl _) _).trans (hw1.mono (by rw [size_alloc]; omega))
  go_wp2_with (go_at_call 151; refine (digitsOf_any d hds A hd _).mono ?_)
  rintro e w2 ⟨v, rfl, O2, B2⟩
  have O2 := hid (O2.mono B1.size)
  have B2 := hid (B1.trans (B2.mono B1.size))
  clear hw1 B1
  go_wp2
  go_ret
  exact ⟨_, rfl, O2.out, B2.out⟩
end Wz
end Go.Proofs.YtdbbemcddhgbcaaGreatDoor

/- Layer 20: the law's known -/
namespace Go.Proofs.YtdbbemcddhgbcaaGreatDoor
open Go.RowKit
namespace Wz
/-- a list of numbers that lies in the block g -/
structure LsN (w : World) (g : Nat) (l : List Nat) : Prop where
  lt : g < w.heap.size
  pl : ∀ (j n : Nat), l[j]? = some n → w.cell? ⟨g, j, none⟩ = some (.int .i64 (n : Int))
theorem own_lsn {w : World} {b : Nat} {v : Value} {l : List Nat} (h : Own w b v (ivn l)) (h0 : 0 < l.length) : ∃ g cap, v = .slice (some ⟨g, 0, none⟩) l.length cap ∧ LsN w g l ∧ b ≤ g := by
  rcases h with ⟨rfl, h⟩ | ⟨g, cap, rfl, h1, h2, h3, h4, h5, h6⟩
  · have := congrArg List.length h
    rw [ivn_len, List.length_nil] at this
    omega
  · refine ⟨g, cap, by rw [ivn_len], ⟨h6, fun j n hj => ?_⟩, h1⟩
    have := h4 j _ (ivn_at hj)
    rwa [Nat.zero_add] at this
theorem LsN.below {w w' : World} {g : Nat} {l : List Nat} {B : Nat} (h : LsN w g l) (hb : Below B w w') (hB : g < B) : LsN w' g l :=
  ⟨Nat.lt_of_lt_of_le h.lt hb.size, fun j n hj => by rw [World.cell?_of_block (w := w) (hb.block g hB)]; exact h.pl j n hj⟩
theorem LsN.drewN {w : World} {g : Nat} {l : List Nat} (h : LsN w g l) (n : Nat) : LsN (w.drewN n) g l := ⟨h.lt, h.pl⟩
theorem LsN.get {w : World} {g : Nat} {l : List Nat} (h : LsN w g l) {j : Nat} (hj : j < l.length) : w.cell? ⟨g, j, none⟩ = some (.int .i64 ((l.getD j 0 : Nat) : Int)) :=
  h.pl j _ (by rw [List.getD_eq_getElem?_getD, List.getElem?_eq_getElem hj]; rfl)
theorem known_digits : (dg (Sha.sha [109])).take 4 = [6, 2, 12, 6] := by decide +kernel
theorem size_any (w : World) : Calls Tryz.prog 106 #[] w fun e w' => e = .returned (.int .i64 2144) ∧ w' = w := by
  go_enter Tryz.func106, Tryz.ntmps106
  go_wp2
  go_ret
  exact ⟨rfl, rfl⟩
end Wz
end Go.Proofs.YtdbbemcddhgbcaaGreatDoor
