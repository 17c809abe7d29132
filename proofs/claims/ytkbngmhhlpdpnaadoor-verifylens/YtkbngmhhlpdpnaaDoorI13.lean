import Derived.Test.YtkbngmhhlpdpnaaDoorI12
namespace Go.Proofs.YtkbngmhhlpdpnaaDoor
open Go.RowKit
set_option maxRecDepth 100000 in
set_option maxHeartbeats 400000 in
theorem lens_any (n m f k : Int) (w : World) (T : Tabs w) :
    Calls Tryd.prog 5 #[.int .i64 n, .int .i64 m, .int .i64 f, .int .i64 k] w fun e w' => e = .returned (.bool true) ∧ Below w.heap.size w w' := by
  have c1 := PathLen_any n m
  have c2 := rPathLen_any n m
  have c3 := ProofLen_any f k
  have c4 := rProofLen_any f k
  generalize (lenOf n m).1 = a at *
  generalize (lenOf n m).2 = b at *
  generalize (prfLen f k).1 = c at *
  generalize (prfLen f k).2 = d at *
  have h1 : (a == a) = true := by simp
  have h2 : (b == b) = true := by simp
  have h3 : (c == c) = true := by simp
  have h4 : (d == d) = true := by simp
  go_enter Tryd.func5, Tryd.ntmps5
  go_wp2_with (first
    | (go_at_call 23; refine (known4_any _ T).mono ?_; rintro e w1 ⟨rfl, hw1⟩)
    | (go_at_call 25; refine (c1 _).mono ?_; rintro e w2 ⟨rfl, hw2⟩)
    | (go_at_call 30; refine (c2 _).mono ?_; rintro e w3 ⟨rfl, rfl⟩)
    | (go_at_call 31; refine (c3 _).mono ?_; rintro e w4 ⟨rfl, hw4⟩)
    | (go_at_call 32; refine (c4 _).mono ?_; rintro e w5 ⟨rfl, rfl⟩))
  go_ret
  have b2 := hw1.trans (hw2.mono hw1.size)
  exact ⟨rfl, b2.trans (hw4.mono b2.size)⟩
end Go.Proofs.YtkbngmhhlpdpnaaDoor
