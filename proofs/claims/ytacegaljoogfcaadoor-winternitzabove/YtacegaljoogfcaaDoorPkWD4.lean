import Derived.Test.YtacegaljoogfcaaDoorPkWD3
/- Layer 20: the law's known -/
namespace Go.Proofs.YtacegaljoogfcaaDoor
open Go.RowKit
namespace Wz
/-- a list of numbers that lies in the block g -/
structure LsN (w : World) (g : Nat) (l : List Nat) : Prop where
  lt : g < w.heap.size
  pl : ∀ (j n : Nat), l[j]? = some n → w.cell? ⟨g, j, none⟩ = some (.int .i64 (n : Int))
theorem own_lsn {w : World} {b : Nat} {v : Value} {l : List Nat} (h : Own w b v (ivn l)) (h0 : 0 < l.length) : ∃ g cap, v = .slice (some ⟨g, 0, none⟩) l.length cap ∧ LsN w g l ∧ b ≤ g := by
  rcases h with ⟨rfl, h⟩ | ⟨g, cap, rfl, h1, h2, h3, h4, h5, h6⟩
  · have := congrArg List.length h
    rw [ivn_len, List.length_nil] at this
    omega
  · refine ⟨g, cap, by rw [ivn_len], ⟨h6, fun j n hj => ?_⟩, h1⟩
    have := h4 j _ (ivn_at hj)
    rwa [Nat.zero_add] at this
theorem LsN.below {w w' : World} {g : Nat} {l : List Nat} {B : Nat} (h : LsN w g l) (hb : Below B w w') (hB : g < B) : LsN w' g l :=
  ⟨Nat.lt_of_lt_of_le h.lt hb.size, fun j n hj => by rw [World.cell?_of_block (w := w) (hb.block g hB)]; exact h.pl j n hj⟩
theorem LsN.drewN {w : World} {g : Nat} {l : List Nat} (h : LsN w g l) (n : Nat) : LsN (w.drewN n) g l := ⟨h.lt, h.pl⟩
theorem LsN.get {w : World} {g : Nat} {l : List Nat} (h : LsN w g l) {j : Nat} (hj : j < l.length) : w.cell? ⟨g, j, none⟩ = some (.int .i64 ((l.getD j 0 : Nat) : Int)) :=
  h.pl j _ (by rw [List.getD_eq_getElem?_getD, List.getElem?_eq_getElem hj]; rfl)
theorem known_digits : (dg (Sha.sha [109])).take 4 = [6, 2, 12, 6] := by decide +kernel
theorem size_any (w : World) : Calls Tryd.prog 9 #[] w fun e w' => e = .returned (.int .i64 2144) ∧ w' = w := by
  go_enter Tryd.func9, Tryd.ntmps9
  go_wp2
  go_ret
  exact ⟨rfl, rfl⟩
set_option maxRecDepth 100000 in
set_option maxHeartbeats 1000000 in
theorem known20_any (w : World) (T : Tabs w) : Calls Tryd.prog 5 #[] w fun e w' => e = .returned (.bool true) ∧ Below w.heap.size w w' := by
  have hT := T.lt
  obtain ⟨A, hA⟩ : ∃ A, Hid (Sha.sha [109] = A) := ⟨_, rfl⟩
  have hk := known_digits
  rw [hA.out] at hk
  have hAl : A.length = 32 := by rw [← hA.out, Sha.sha_length]
  have hdl := dg_len A hAl
  have i1 := digits_any ⟨#[]⟩ (by decide) A (by rw [show (ByteArray.mk #[]).data.toList = [] from rfl]; exact hA) w T
  clear hA hAl
  go_enter Tryd.func5, Tryd.ntmps5
  go_wp2_with (go_at_call 6; refine i1.mono ?_)
  rintro e w1 ⟨v, rfl, O1, B1⟩
  obtain ⟨g, cap, rfl, L1, _⟩ := own_lsn O1 (by omega)
  have hg := L1.lt
  have k0 : (dg A)[0]? = some 6 := by have := congrArg (·[0]?) hk; simpa using this
  have k1 : (dg A)[1]? = some 2 := by have := congrArg (·[1]?) hk; simpa using this
  have k2 : (dg A)[2]? = some 12 := by have := congrArg (·[2]?) hk; simpa using this
  have k3 : (dg A)[3]? = some 6 := by have := congrArg (·[3]?) hk; simpa using this
  have c0 : w1.cell? ⟨g, 0, none⟩ = some (.int .i64 6) := L1.pl 0 6 k0
  have c1 : w1.cell? ⟨g, 1, none⟩ = some (.int .i64 2) := L1.pl 1 2 k1
  have c2 : w1.cell? ⟨g, 2, none⟩ = some (.int .i64 12) := L1.pl 2 12 k2
  have c3 : w1.cell? ⟨g, 3, none⟩ = some (.int .i64 6) := L1.pl 3 6 k3
  have B1 := hid B1
  rw [hdl]
  clear hk hdl k0 k1 k2 k3 O1 L1
  go_wp2_with (go_at_call 9; refine (size_any _).mono ?_; rintro e w2 ⟨rfl, h0⟩; have h0 := h0.symm; subst h0)
  go_ret
  exact ⟨rfl, B1.out⟩
end Wz
end Go.Proofs.YtacegaljoogfcaaDoor
