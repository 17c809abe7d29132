import Derived.Test.YtonmhimoglgbgaaDoorZ7
import Derived.Test.YtonmhimoglgbgaaDoorV1
namespace Go.Proofs.YtonmhimoglgbgaaDoor
open Go.RowKit Cod

theorem ints_bd (L : List Nat) (a : Nat) (h : Rises a L) : ∀ c ∈ ints L, -9223372036854775808 ≤ c ∧ c ≤ 9223372036854775807 := by
  induction L generalizing a with
  | nil => intro c hc; simp [ints] at hc
  | cons n L ih =>
    intro c hc
    have h2 := h.2.1
    unfold top at h2
    rw [ints, List.map_cons] at hc
    rcases List.mem_cons.1 hc with rfl | hc
    · constructor <;> simp <;> omega
    · exact ih (n + 1) h.2.2 c hc
/-- a Writer that goes on -/
theorem put_ok {w w' : World} {base b : Nat} {v : Value} {S B : List UInt8} {e : Int} {r : Ending} (he : e = 0) (hW : Wri w base b v (.ok S)) (hb : base ≤ w.heap.size) (h : WPost w base b v ((WSt.ok S).put e B) r w') :
    r = .returned (.tuple #[]) ∧ (∃ v', Wri w' base b v' (.ok (S ++ B))) ∧ Below base w w' := by
  subst he
  obtain ⟨h1, v', h2, h3, _⟩ := h
  exact ⟨h1, ⟨v', h2⟩, hW.post_below hb h3⟩
theorem bel_new {w : World} (o : Obj) : Below w.heap.size w (w.alloc o) := (Below.refl _ _).alloc (Nat.le_refl _) o
theorem le_new {w : World} {base : Nat} (h : base ≤ w.heap.size) (o : Obj) : base ≤ (w.alloc o).heap.size := Nat.le_trans h (bel_new o).size
theorem SlcI.bel {W w : World} {v : Value} {l : List Int} (h : SlcI W v l) (hb : Below W.heap.size W w) : SlcI w v l := h.keep (S := fun _ => False) (Keep.ofBelow hb) (fun _ _ _ _ h => h)
theorem Slc.bel {W w : World} {v : Value} {l : List (List UInt8)} (h : Slc W v l) (hb : Below W.heap.size W w) : Slc w v l := h.keep (S := fun _ => False) (Keep.ofBelow hb) (fun _ _ _ _ h => h)
theorem Stp.e1 (p : Stp) : byteErr (pk p.nn 256) = 0 := by
  have h1 := pk_nonneg p.nn 256 (by omega)
  have h2 := pk_lt p.nn 256 (by omega)
  rw [byteErr, if_neg (by omega)]
theorem Stp.e2 (p : Stp) : numErr (pk p.nn 4611686018427387904) = 0 := by
  have h1 := pk_nonneg p.nn 4611686018427387904 (by omega)
  have h2 := pk_lt p.nn 4611686018427387904 (by omega)
  rw [numErr, if_neg (by omega)]
theorem Stp.e3 (p : Stp) : risingErr (ints p.rl) = 0 := by rw [risingErr, if_pos (by simpa using rises_of p.rl 0 p.rl_rises)]
theorem Stp.e4 (p : Stp) (n : Nat) : textErr n ((n : Int) + pk p.nn 9) = 0 := by
  have h1 := pk_nonneg p.nn 9 (by omega)
  rw [textErr, if_neg (by omega), if_neg (by omega)]
theorem Stp.e5 (p : Stp) : textsErr p.tl 8 20 = 0 := by
  have := p.tl_len
  rw [textsErr, if_neg (by omega), if_neg (by omega), if_pos (fun t ht => by have := p.tl_mem t ht; omega)]
theorem Stp.e6 (p : Stp) : hashesErr p.hl 8 = 0 := by
  have := p.hl_len
  rw [hashesErr, if_neg (by omega), if_neg (by omega), if_pos p.hl_mem]
theorem Stp.b1 (p : Stp) (h : p.kd = 1) : p.bytes = [UInt8.ofNat (pk p.nn 256).toNat] := by unfold Stp.bytes; rw [if_pos h]; rfl
theorem Stp.b2 (p : Stp) (h : p.kd = 2) : p.bytes = digs (pk p.nn 4611686018427387904).toNat := by unfold Stp.bytes; rw [if_neg (by omega), if_pos h]; rfl
theorem Stp.b3 (p : Stp) (h : p.kd = 3) : p.bytes = wrRising ((ints p.rl).map Int.toNat) := by unfold Stp.bytes; rw [ints_toNat, if_neg (by omega), if_neg (by omega), if_pos h]
theorem Stp.b4 (p : Stp) (h : p.kd = 4) : p.bytes = wrText p.s := by unfold Stp.bytes; rw [if_neg (by omega), if_neg (by omega), if_neg (by omega), if_pos h]
theorem Stp.b5 (p : Stp) (h : p.kd = 5) : p.bytes = wrTexts p.tl := by unfold Stp.bytes; rw [if_neg (by omega), if_neg (by omega), if_neg (by omega), if_neg (by omega), if_pos h]
theorem Stp.b6 (p : Stp) (h : p.kd = 6) : p.bytes = wrHashes p.hl := by unfold Stp.bytes; rw [if_neg (by omega), if_neg (by omega), if_neg (by omega), if_neg (by omega), if_neg (by omega), if_pos h]
theorem Stp.b7 (p : Stp) (h : p.kd = 7) : p.bytes = p.s := by unfold Stp.bytes; rw [if_neg (by omega), if_neg (by omega), if_neg (by omega), if_neg (by omega), if_neg (by omega), if_neg (by omega), if_pos h]
theorem Stp.b0 (p : Stp) (h1 : p.kd ≠ 1) (h2 : p.kd ≠ 2) (h3 : p.kd ≠ 3) (h4 : p.kd ≠ 4) (h5 : p.kd ≠ 5) (h6 : p.kd ≠ 6) (h7 : p.kd ≠ 7) : p.bytes = [] := by
  unfold Stp.bytes; rw [if_neg h1, if_neg h2, if_neg h3, if_neg h4, if_neg h5, if_neg h6, if_neg h7]
theorem Wri.apart {w w' : World} {base b : Nat} {v u : Value} {st : WSt} {cs : List Value} (h : Wri w base b v st) (ho : Own w' w.heap.size u cs) : Apart u (WS b v) := ho.apart (fun k hk => (h.in k hk).2)
end Go.Proofs.YtonmhimoglgbgaaDoor
