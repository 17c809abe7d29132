import Derived.Test.YtcaephnicaepaaaDoorL2
import Derived.Test.YtcaephnicaepaaaDoorR6
namespace Go.Proofs.YtcaephnicaepaaaDoor
open Go.RowKit

theorem node_sv (l r : List UInt8) (w : World) (T : Tabs w) :
    Calls Tryd.prog 26 #[sv l, sv r] w fun e w' => e = .returned (.tuple #[sv (nodeOf l r).1, .int .i64 (nodeOf l r).2]) ∧ Below w.heap.size w w' :=
  node_any ⟨l.toArray⟩ ⟨r.toArray⟩ w T
theorem rnode_sv (l r : List UInt8) (w : World) :
    Calls Tryd.prog 27 #[sv l, sv r] w fun e w' => e = .returned (.tuple #[sv (nodeOf l r).1, .int .i64 (nodeOf l r).2]) ∧ Below w.heap.size w w' :=
  rnode_any ⟨l.toArray⟩ ⟨r.toArray⟩ w
theorem thirty_sv (l : List UInt8) (h : l.length ≤ maxLen) (w : World) :
    Calls Tryd.prog 28 #[sv l] w fun e w' => e = .returned (sv (thirty l)) ∧ Below w.heap.size w w' :=
  thirty_any ⟨l.toArray⟩ (by rw [sv_size]; exact h) w
theorem eq_sv (P : Program) (t : TypeId) (a : List UInt8) (w : World) : (binOp .eql t (sv a) (sv a)).run P w = .ok (.bool true) w := by
  rw [sv, binOp_string_eql]; simp [go_sem]
theorem node_at {l r n : List UInt8} {c : Int} (h : Hid (nodeOf l r = (n, c))) (w : World) (T : Tabs w) :
    Calls Tryd.prog 26 #[sv l, sv r] w fun e w' => e = .returned (.tuple #[sv n, .int .i64 c]) ∧ Below w.heap.size w w' := by
  have := node_sv l r w T
  rwa [h.out] at this
theorem rnode_at {l r n : List UInt8} {c : Int} (h : Hid (nodeOf l r = (n, c))) (w : World) :
    Calls Tryd.prog 27 #[sv l, sv r] w fun e w' => e = .returned (.tuple #[sv n, .int .i64 c]) ∧ Below w.heap.size w w' := by
  have := rnode_sv l r w
  rwa [h.out] at this
theorem thirty_at {l a : List UInt8} (h : Hid (thirty l = a)) (hl : l.length ≤ maxLen) (w : World) :
    Calls Tryd.prog 28 #[sv l] w fun e w' => e = .returned (sv a) ∧ Below w.heap.size w w' := by
  have := thirty_sv l hl w
  rwa [h.out] at this

set_option maxRecDepth 100000 in
set_option maxHeartbeats 1000000 in
theorem nodes_any (l r : List UInt8) (hl : l.length ≤ maxLen) (hr : r.length ≤ maxLen) (w : World) (T : Tabs w) :
    Calls Tryd.prog 6 #[sv l, sv r] w fun e w' => e = .returned (.bool true) ∧ Below w.heap.size w w' := by
  have hT := T.lt
  obtain ⟨a, ha⟩ : ∃ a, Hid (thirty l = a) := ⟨_, rfl⟩
  obtain ⟨b, hb⟩ : ∃ b, Hid (thirty r = b) := ⟨_, rfl⟩
  have la : Hid (a.length = 32) := by rw [← ha.out]; exact thirty_length l
  have lb : Hid (b.length = 32) := by rw [← hb.out]; exact thirty_length r
  obtain ⟨n1, c1, h1⟩ : ∃ n c, Hid (nodeOf l r = (n, c)) := ⟨_, _, rfl⟩
  obtain ⟨n2, h2⟩ : ∃ n, Hid (nodeOf a b = (n, 0)) := ⟨Sha.sha (1 :: (a ++ b)), by unfold nodeOf; rw [if_pos ⟨la.out, lb.out⟩]; rfl⟩
  obtain ⟨n3, c3, h3⟩ : ∃ n c, Hid (nodeOf a r = (n, c)) := ⟨_, _, rfl⟩
  have x1 : (c1 == c1) = true := by simp
  have x3 : (c3 == c3) = true := by simp
  go_enter Tryd.func6, Tryd.ntmps6
  go_wp2_with (go_at_call 9; fail)
  refine (known_any _ T).mono ?_
  rintro e w1 ⟨rfl, hw1⟩
  have T1 := T.below hw1 T.lt
  have B1 : Below w.heap.size w w1 := hw1
  go_wp2_with (go_at_call 26; fail)
  refine (node_at h1 _ T1).mono ?_
  rintro e w2 ⟨rfl, hw2⟩
  have T2 := T1.below hw2 T1.lt
  have B2 : Below w.heap.size w w2 := B1.trans (hw2.mono B1.size)
  go_wp2_with (go_at_call 27; fail)
  refine (rnode_at h1 _).mono ?_
  rintro e w3 ⟨rfl, hw3⟩
  have T3 := T2.below hw3 T2.lt
  have B3 : Below w.heap.size w w3 := B2.trans (hw3.mono B2.size)
  go_wp2_with (go_at_call 28; fail)
  refine (thirty_at ha hl _).mono ?_
  rintro e w4 ⟨rfl, hw4⟩
  have T4 := T3.below hw4 T3.lt
  have B4 : Below w.heap.size w w4 := B3.trans (hw4.mono B3.size)
  go_wp2_with (go_at_call 28; fail)
  refine (thirty_at hb hr _).mono ?_
  rintro e w5 ⟨rfl, hw5⟩
  have T5 := T4.below hw5 T4.lt
  have B5 : Below w.heap.size w w5 := B4.trans (hw5.mono B4.size)
  go_wp2_with (go_at_call 26; fail)
  refine (node_at h2 _ T5).mono ?_
  rintro e w6 ⟨rfl, hw6⟩
  have T6 := T5.below hw6 T5.lt
  have B6 : Below w.heap.size w w6 := B5.trans (hw6.mono B5.size)
  go_wp2_with (go_at_call 28; fail)
  refine (thirty_at ha hl _).mono ?_
  rintro e w7 ⟨rfl, hw7⟩
  have T7 := T6.below hw7 T6.lt
  have B7 : Below w.heap.size w w7 := B6.trans (hw7.mono B6.size)
  go_wp2_with (go_at_call 28; fail)
  refine (thirty_at hb hr _).mono ?_
  rintro e w8 ⟨rfl, hw8⟩
  have T8 := T7.below hw8 T7.lt
  have B8 : Below w.heap.size w w8 := B7.trans (hw8.mono B7.size)
  go_wp2_with (go_at_call 27; fail)
  refine (rnode_at h2 _).mono ?_
  rintro e w9 ⟨rfl, hw9⟩
  have T9 := T8.below hw9 T8.lt
  have B9 : Below w.heap.size w w9 := B8.trans (hw9.mono B8.size)
  go_wp2_with (go_at_call 28; fail)
  refine (thirty_at ha hl _).mono ?_
  rintro e w10 ⟨rfl, hw10⟩
  have T10 := T9.below hw10 T9.lt
  have B10 : Below w.heap.size w w10 := B9.trans (hw10.mono B9.size)
  go_wp2_with (go_at_call 26; fail)
  refine (node_at h3 _ T10).mono ?_
  rintro e w11 ⟨rfl, hw11⟩
  have T11 := T10.below hw11 T10.lt
  have B11 : Below w.heap.size w w11 := B10.trans (hw11.mono B10.size)
  go_wp2_with (go_at_call 28; fail)
  refine (thirty_at ha hl _).mono ?_
  rintro e w12 ⟨rfl, hw12⟩
  have T12 := T11.below hw12 T11.lt
  have B12 : Below w.heap.size w w12 := B11.trans (hw12.mono B11.size)
  go_wp2_with (go_at_call 27; fail)
  refine (rnode_at h3 _).mono ?_
  rintro e w13 ⟨rfl, hw13⟩
  have T13 := T12.below hw13 T12.lt
  have B13 : Below w.heap.size w w13 := B12.trans (hw13.mono B12.size)
  have e1 : sv n1 = .string ⟨n1.toArray⟩ := rfl
  have e2 : sv n2 = .string ⟨n2.toArray⟩ := rfl
  have e3 : sv n3 = .string ⟨n3.toArray⟩ := rfl
  rw [e1, e2, e3]
  clear h1 h2 h3 e1 e2 e3
  generalize ByteArray.mk n1.toArray = s1
  generalize ByteArray.mk n2.toArray = s2
  generalize ByteArray.mk n3.toArray = s3
  have y1 : (s1.toList == s1.toList) = true := by simp
  have y2 : (s2.toList == s2.toList) = true := by simp
  have y3 : (s3.toList == s3.toList) = true := by simp
  go_wp2
  go_ret
  exact ⟨rfl, B13⟩
end Go.Proofs.YtcaephnicaepaaaDoor
