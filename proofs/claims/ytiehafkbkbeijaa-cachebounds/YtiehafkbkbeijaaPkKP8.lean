import Derived.Test.YtiehafkbkbeijaaPkKP7
import Derived.Laws.ResultCell
/- Layer 15, the program: New, Tally, Get, Drop, Pin, Unpin -/
namespace Go.Proofs.Ytiehafkbkbeijaa
open Go.RowKit Go.Maps
namespace Kc
theorem Ch.mono {w : World} {a : Nat} {g : Option Nat} {B c c' : Nat} {L : List En} {f m o : Nat} (h : Ch w a g B c L f m o) (hc : c ≤ c') : Ch w a g B c' L f m o := by
  refine ⟨h.li, ?_, h.gn, h.uq, h.bu, h.tt, Nat.le_trans h.cb hc, h.pm⟩
  rcases h.tb with t | ⟨b, D, h0, h1, h2⟩
  · exact .inl t
  · exact .inr ⟨b, D, h0, h1.mono hc, h2⟩
theorem fnd_front {X Y : List En} {e : En} (hu : Uq (X ++ e :: Y)) (k : List UInt8) : fnd k (e :: (X ++ Y)) = fnd k (X ++ e :: Y) := by
  by_cases c : e.k = k
  · rw [fnd_cons_eq c, ← c]
    exact (fnd_of_mem hu (by simp)).symm
  · rw [fnd_cons_ne c, fnd_mid hu, if_neg (Ne.symm c)]
theorem Uq.front {X Y : List En} {e : En} (hu : Uq (X ++ e :: Y)) : Uq (e :: (X ++ Y)) := hu.split.1.cons hu.split.2
set_option maxRecDepth 100000 in
theorem new_bad (n : Int) (h : n < 0 ∨ 16777216 < n) (w : World) :
    Calls Try.prog 8 #[.int .i64 n] w fun r w' => r = .returned (.tuple #[.pointer none, .int .i64 150]) ∧ w' = w := by
  go_enter Try.func8, Try.ntmps8
  by_cases h0 : n < 0
  · go_wp2
    go_ret2
    exact ⟨rfl, rfl⟩
  · have h1 : 16777216 < n := by omega
    clear h
    go_wp2
    go_ret2
    exact ⟨rfl, rfl⟩
set_option maxRecDepth 100000 in
theorem new_ok (B : Nat) (hB : B ≤ 16777216) (w : World) :
    Calls Try.prog 8 #[.int .i64 (B : Int)] w fun r w' => r = .returned (.tuple #[.pointer (some ⟨w.heap.size, 0, none⟩), .int .i64 0]) ∧ Ch w' w.heap.size none B 0 [] 0 0 0 ∧ Below w.heap.size w w' := by
  have h1 : ¬ (B : Int) < 0 := by omega
  have h2 : ¬ 16777216 < (B : Int) := by omega
  go_enter Try.func8, Try.ntmps8
  go_wp2
  go_ret2
  refine ⟨rfl, ⟨⟨heap_alloc_new w _, trivial, by simp⟩, .inl ⟨rfl, rfl⟩, (fun _ h => nomatch h), List.nodup_nil, hB, Nat.zero_le _, Nat.le_refl _, (fun _ h => nomatch h)⟩, (Below.refl _ _).alloc (Nat.le_refl _) _⟩
theorem sizeTl : (Try.prog.info? 36).map (·.size) = some 6 := by kernel_rfl
def tal (n t p f m o : Nat) : Value := .agg #[.int .i64 (n : Int), .int .i64 (t : Int), .int .i64 (p : Int), .int .i64 (f : Int), .int .i64 (m : Int), .int .i64 (o : Int)]
set_option maxRecDepth 100000 in
theorem tally_any {w : World} {a : Nat} {g : Option Nat} {B c : Nat} {L : List En} {f m o : Nat} (h : Ch w a g B c L f m o) :
    Calls Try.prog 12 #[.pointer (some ⟨a, 0, none⟩)] w fun r w' => r = .returned (tal L.length (tot L) (pnd L) f m o) ∧ Below w.heap.size w w' := by
  obtain ⟨_, _, _, _, c4, c5, c6, c7, c8, c9⟩ := h.li.cs
  have al := h.li.lt a (fp_a _ _)
  unfold tal
  generalize L.length = n4 at *
  generalize tot L = n5 at *
  generalize pnd L = n6 at *
  clear h
  go_enter Try.func12, Try.ntmps12
  go_wp2_with (go_at_call 18; refine (orNone_some _ _).mono ?_; rintro r w9 ⟨rfl, rfl⟩)
  exact bodyPost_ret (v := tal n4 n5 n6 f m o) (results_cell_row rfl _ _ w.heap.size 36 _ (0, 0) _ rfl (heap_alloc_new w _) Try.underlying36 rfl sizeTl) rfl ⟨rfl, (Below.refl _ _).alloc (Nat.le_refl _) _⟩
end Kc
end Go.Proofs.Ytiehafkbkbeijaa
