import Derived.Test.YtkbngmhhlpdpnaaDoorI12
namespace Go.Proofs.YtkbngmhhlpdpnaaDoor
open Go.RowKit
/-- which of n things -/
def pk4 (c n : Int) : Int := (if c < 0 then -(c + 1) else c) % n
theorem pk4_nonneg (c n : Int) (hn : 0 < n) : 0 ≤ pk4 c n := Int.emod_nonneg _ (by omega)
theorem pk4_lt (c n : Int) (hn : 0 < n) : pk4 c n < n := Int.emod_lt_of_pos _ hn
set_option maxRecDepth 100000 in
set_option maxHeartbeats 400000 in
theorem pick4_any (c n : Int) (hc1 : -9223372036854775808 ≤ c) (hc2 : c ≤ 9223372036854775807) (hn : 0 < n) (hn2 : n ≤ 9223372036854775807) (w : World) :
    Calls Tryd.prog 24 #[.int .i64 c, .int .i64 n] w fun e w' => e = .returned (.int .i64 (pk4 c n)) ∧ w' = w := by
  have hp0 := pk4_nonneg c n hn
  have hp1 := pk4_lt c n hn
  have hn0 : ¬ n = 0 := by omega
  by_cases h : c < 0
  · have e1 : IntKind.i64.wrap (c + 1) = c + 1 := by rw [IntKind.wrap_i64]; omega
    have e2 : IntKind.i64.wrap (-(c + 1)) = -(c + 1) := by rw [IntKind.wrap_i64]; omega
    have e3 : Int.tmod (-(c + 1)) n = pk4 c n := by rw [Int.tmod_eq_emod_of_nonneg (by omega), pk4, if_pos h]
    have e4 : IntKind.i64.wrap (pk4 c n) = pk4 c n := wrap_small _ (by omega) (by omega)
    go_enter Tryd.func24, Tryd.ntmps24
    go_wp2
    go_ret
    exact ⟨rfl, rfl⟩
  · have e3 : Int.tmod c n = pk4 c n := by rw [Int.tmod_eq_emod_of_nonneg (by omega), pk4, if_neg h]
    have e4 : IntKind.i64.wrap (pk4 c n) = pk4 c n := wrap_small _ (by omega) (by omega)
    go_enter Tryd.func24, Tryd.ntmps24
    go_wp2
    go_ret
    exact ⟨rfl, rfl⟩


theorem sv_data4 (s : ByteArray) : Value.string s = sv s.data.toList := by cases s; rfl
theorem conv1 (w : World) (x : Nat) (hx : x < 256) : ∃ b : ByteArray, Hid (b.size = 1) ∧ (convert 71 9 (.slice (some ⟨w.heap.size, 0, none⟩) 1 1)).run Tryd.prog (w.alloc (.cells #[.int .u8 (x : Int)] 5)) = .ok (.string b) (w.alloc (.cells #[.int .u8 (x : Int)] 5)) := by
  have e : #[Value.int .u8 (x : Int)] = (bv [UInt8.ofNat x]).toArray := by
    simp [bv]; omega
  refine ⟨⟨[UInt8.ofNat x].toArray⟩, rfl, ?_⟩
  rw [e]
  exact run_conv_bytes (P := Tryd.prog) _ 71 9 5 w.heap.size 0 1 1 [UInt8.ofNat x] rfl Tryd.underlying71 Tryd.underlying5 Tryd.underlying9 (rangeAt_of_list (heap_alloc_new w _) (fun j v hv => by rw [Nat.zero_add]; exact hv))
/-- so many hashes come out -/
def HsOut (w : World) (M : Nat) (e : Ending) (w' : World) : Prop := ∃ v X, e = .returned v ∧ X.length = M ∧ X.all (·.length == 32) = true ∧ Own w' w.heap.size v (svs X) ∧ Below w.heap.size w w'
set_option maxRecDepth 100000 in
set_option maxHeartbeats 800000 in
theorem hashes4_any (l : List (List UInt8)) (M : Nat) (hM : M ≤ 200) (hq : ∀ q ∈ l, q.length ≤ 140737488351232) (a : Option Addr) (cap : Nat) (w : World) (hc : l.length ≤ 9223372036854775807) (hA : At w a l) :
    Calls Tryd.prog 26 #[.slice a l.length cap, .int .i64 M] w (HsOut w M) := by
  have HA := hid hA
  have HQ := hid hq
  clear hA hq
  generalize hn : l.length = n at *
  go_enter Tryd.func26, Tryd.ntmps26
  go_wp2
  go_loopw [5, 6] (fun v i w' => ∃ (k : Nat) (X : List (List UInt8)), k ≤ M ∧ i = .int .i64 (k : Int) ∧ Hid (X.length = k) ∧ Hid (X.all (·.length == 32) = true) ∧ Hid (Own w' w.heap.size v (svs X)) ∧ Hid (Below w.heap.size w w')) (fun _ i _ => M - (intOf i).toNat)
  case atStart => exact ⟨0, [], by omega, rfl, rfl, rfl, Own.nil _ _, Below.refl _ _⟩
  case round =>
    obtain ⟨k, X, hkM, rfl, hXl, hXa, hO, hB⟩ := hrel
    by_cases hk : k < M
    · have b1 : (k : Int) < (M : Int) := by omega
      have e0 : (k : Int) % 256 = (k : Int) := by omega
      obtain ⟨b, hb1, hcv⟩ := conv1 wr k (by omega)
      have hbl : ¬ 9223372036854775807 < 4 + b.size := by have := hb1.out; omega
      have hB1 := hid (hB.out.alloc hB.out.size (.cells #[.int .u8 (k : Int)] 5))
      have hO1 := hid (hO.out.alloc (.cells #[.int .u8 (k : Int)] 5))
      by_cases hkn : k < n
      · have b0 : (k : Int) < (n : Int) := by omega
        obtain ⟨x, rfl⟩ := HA.out.pos (by omega)
        obtain ⟨s, hs, hcell⟩ := (HA.out.below hB1.out (Nat.le_refl _)).cell k (by omega)
        obtain ⟨D, hD⟩ : ∃ D, Hid (Sha.sha s.data.toList = D) := ⟨_, rfl⟩
        have hsz : s.size ≤ 140737488355000 := by
          have := HQ.out l[k] (List.getElem_mem (by omega))
          rw [← hs.out, data_length] at this
          omega
        have h1 := lhash_any s D hD hsz (wr.alloc (.cells #[.int .u8 (k : Int)] 5))
        have lD : D.length = 32 := by rw [← hD.out, Sha.sha_length]
        clear HA HQ hs hD
        go_wp2_with (first
          | (go_at_call 28; fail))
        refine h1.mono ?_
        rintro e w2 ⟨rfl, hw2⟩
        obtain ⟨v3, w3, hap, hO3, hb3⟩ := append_text w2 w.heap.size _ X D (hO1.out.below hw2 (Nat.le_refl _)) (by have := hXl.out; omega) (Nat.le_trans hB1.out.size hw2.size)
        rw [show sv D = Value.string ⟨D.toArray⟩ from rfl] at hap ⊢
        go_wp2_with (at_builtin; go_must (refine Lib.wpList_append_run _ rfl _ _ 22 22 rfl _ _ rfl rfl _ _ hap ?_))
        have fin : Hid ((X ++ [D]).length = k + 1) ∧ Hid ((X ++ [D]).all (·.length == 32) = true) := ⟨by have := hXl.out; unfold Hid; simp; omega, by have := hXa.out; unfold Hid; rw [List.all_append, this]; simp [lD]⟩
        have fB := hid ((hB1.out.trans (hw2.mono hB1.out.size)).trans hb3)
        refine ⟨?_, by simp [intOf]; omega⟩
        first
          | exact ⟨k + 1, X ++ [D], by omega, by go_num, fin.1, fin.2, hid hO3, fB⟩
          | (repeat apply Exists.intro
             exact ⟨⟨k + 1, X ++ [D], by omega, by go_num, fin.1, fin.2, hid hO3, fB⟩, rfl⟩)
      · have b0 : ¬ (k : Int) < (n : Int) := by omega
        obtain ⟨D, hD⟩ : ∃ D, Hid (Sha.sha (ByteArray.mk #[110, 111, 110, 101] ++ b).data.toList = D) := ⟨_, rfl⟩
        have hsz : (ByteArray.mk #[110, 111, 110, 101] ++ b).size ≤ 140737488355000 := by
          rw [ByteArray.size_append, show (ByteArray.mk #[110, 111, 110, 101]).size = 4 from rfl]
          have := hb1.out
          omega
        have h1 := lhash_any (ByteArray.mk #[110, 111, 110, 101] ++ b) D hD hsz (wr.alloc (.cells #[.int .u8 (k : Int)] 5))
        have lD : D.length = 32 := by rw [← hD.out, Sha.sha_length]
        clear HA HQ hD
        go_wp2_with (first
          | (go_at_call 28; fail))
        refine h1.mono ?_
        rintro e w2 ⟨rfl, hw2⟩
        obtain ⟨v3, w3, hap, hO3, hb3⟩ := append_text w2 w.heap.size _ X D (hO1.out.below hw2 (Nat.le_refl _)) (by have := hXl.out; omega) (Nat.le_trans hB1.out.size hw2.size)
        rw [show sv D = Value.string ⟨D.toArray⟩ from rfl] at hap ⊢
        go_wp2_with (at_builtin; go_must (refine Lib.wpList_append_run _ rfl _ _ 22 22 rfl _ _ rfl rfl _ _ hap ?_))
        have fin : Hid ((X ++ [D]).length = k + 1) ∧ Hid ((X ++ [D]).all (·.length == 32) = true) := ⟨by have := hXl.out; unfold Hid; simp; omega, by have := hXa.out; unfold Hid; rw [List.all_append, this]; simp [lD]⟩
        have fB := hid ((hB1.out.trans (hw2.mono hB1.out.size)).trans hb3)
        refine ⟨?_, by simp [intOf]; omega⟩
        first
          | exact ⟨k + 1, X ++ [D], by omega, by go_num, fin.1, fin.2, hid hO3, fB⟩
          | (repeat apply Exists.intro
             exact ⟨⟨k + 1, X ++ [D], by omega, by go_num, fin.1, fin.2, hid hO3, fB⟩, rfl⟩)
    · have b1 : ¬ (k : Int) < (M : Int) := by omega
      have hXM : X.length = M := by rw [hXl.out]; omega
      go_wp2
      go_ret
      exact ⟨_, X, rfl, hXM, hXa.out, hO.out, hB.out⟩
end Go.Proofs.YtkbngmhhlpdpnaaDoor
