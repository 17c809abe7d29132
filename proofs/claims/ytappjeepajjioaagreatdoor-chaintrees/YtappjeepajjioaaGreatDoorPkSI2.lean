import Derived.Test.YtappjeepajjioaaGreatDoorPkTL32
import Derived.Test.YtappjeepajjioaaGreatDoorPkEX3
namespace Go.Proofs.YtappjeepajjioaaGreatDoor
open Go.RowKit Go.Shelf
theorem pth_in : ∀ (f b n i : Nat), ∀ s ∈ Tree.pthF f b n i, b ≤ s.1 ∧ s.1 ≤ s.2 ∧ s.2 ≤ b + n
  | 0, b, n, i, s, h => by cases h
  | f + 1, b, n, i, s, h => by
    by_cases h2 : n < 2
    · rw [Tree.pthF_small h2] at h; cases h
    · have s1 := Tree.sp_lt (n := n) (by omega)
      have s2 := Tree.sp_pos (n := n) (by omega)
      by_cases hi : i < b + Tree.sp n
      · rw [Tree.pthF_left (by omega) hi] at h
        rcases List.mem_append.1 h with h | h
        · have := pth_in f b (Tree.sp n) i s h
          omega
        · obtain rfl := List.mem_singleton.1 h
          exact ⟨by show b ≤ b + Tree.sp n; omega, by show b + Tree.sp n ≤ b + n; omega, by show b + n ≤ b + n; omega⟩
      · rw [Tree.pthF_right (by omega) hi] at h
        rcases List.mem_append.1 h with h | h
        · have := pth_in f (b + Tree.sp n) (n - Tree.sp n) i s h
          omega
        · obtain rfl := List.mem_singleton.1 h
          exact ⟨by show b ≤ b; omega, by show b ≤ b + Tree.sp n; omega, by show b + Tree.sp n ≤ b + n; omega⟩
theorem prf_in : ∀ (f b n m : Nat), 1 ≤ n → b < m → m ≤ b + n → ∀ s ∈ Tree.prfF f b n m, b ≤ s.1 ∧ s.1 ≤ s.2 ∧ s.2 ≤ b + n
  | 0, b, n, m, _, _, _, s, h => by cases h
  | f + 1, b, n, m, h1, hm, hm2, s, h => by
    rw [Tree.prfF] at h
    by_cases h2 : b + n = m
    · rw [if_pos h2] at h
      by_cases hb : b = 0
      · rw [if_pos hb] at h; cases h
      · rw [if_neg hb] at h
        obtain rfl := List.mem_singleton.1 h
        exact ⟨by show b ≤ b; omega, by show b ≤ b + n; omega, by show b + n ≤ b + n; omega⟩
    · rw [if_neg h2] at h
      have s1 := Tree.sp_lt (n := n) (by omega)
      have s2 := Tree.sp_pos (n := n) (by omega)
      by_cases hi : m ≤ b + Tree.sp n
      · rw [if_pos hi] at h
        rcases List.mem_append.1 h with h | h
        · have := prf_in f b (Tree.sp n) m (by omega) hm hi s h
          omega
        · obtain rfl := List.mem_singleton.1 h
          exact ⟨by show b ≤ b + Tree.sp n; omega, by show b + Tree.sp n ≤ b + n; omega, by show b + n ≤ b + n; omega⟩
      · rw [if_neg hi] at h
        rcases List.mem_append.1 h with h | h
        · have := prf_in f (b + Tree.sp n) (n - Tree.sp n) m (by omega) (by omega) (by omega) s h
          omega
        · obtain rfl := List.mem_singleton.1 h
          exact ⟨by show b ≤ b; omega, by show b ≤ b + Tree.sp n; omega, by show b + Tree.sp n ≤ b + n; omega⟩
theorem pthF_short : ∀ (f b n i : Nat), (Tree.pthF f b n i).length ≤ f
  | 0, b, n, i => by simp [Tree.pthF]
  | f + 1, b, n, i => by
    rw [Tree.pthF]
    split
    · simp
    · split
      · rw [List.length_append]; have := pthF_short f b (Tree.sp n) i; simp; omega
      · rw [List.length_append]; have := pthF_short f (b + Tree.sp n) (n - Tree.sp n) i; simp; omega
theorem prfF_short : ∀ (f b n m : Nat), (Tree.prfF f b n m).length ≤ f + 1
  | 0, b, n, i => by simp [Tree.prfF]
  | f + 1, b, n, m => by
    rw [Tree.prfF]
    split
    · split <;> simp
    · split
      · rw [List.length_append]; have := prfF_short f b (Tree.sp n) m; simp; omega
      · rw [List.length_append]; have := prfF_short f (b + Tree.sp n) (n - Tree.sp n) m; simp; omega
theorem hsh_path (L : List (List UInt8)) {n i : Nat} (hi : i < n) (hn : n ≤ L.length) : hsh L (Tree.pthF n 0 n i) = Tree.path i (L.take n) := by
  have e := Tree.pthF_hash L n 0 n i (Nat.le_refl _) (Nat.zero_le _) (by omega) (by omega)
  rw [Nat.zero_add, Nat.sub_zero] at e
  exact e
theorem hsh_proof (L : List (List UInt8)) {m n : Nat} (h1 : 1 ≤ m) (h2 : m ≤ n) (hn : n ≤ L.length) : hsh L (Tree.prfF n 0 n m) = Tree.proof m (L.take n) true := by
  have e := Tree.prfF_hash L n 0 n m (Nat.le_refl _) (by omega) (by omega) (by omega)
  rw [Nat.zero_add, Nat.sub_zero] at e
  exact e
/-- S1 -/
def incE (L : List (List UInt8)) (n i : Int) : Int := if 0 ≤ n ∧ n ≤ (L.length : Int) then (if 0 ≤ i ∧ i < n then 0 else 110) else 111
/-- S2 -/
def conE (L : List (List UInt8)) (m n : Int) : Int := if 0 ≤ n ∧ n ≤ (L.length : Int) ∧ 1 ≤ m ∧ m ≤ n then 0 else 111
/-- a list comes out, new, and no error -/
def RwP (w : World) (l : List (List UInt8)) (r : Ending) (w' : World) : Prop := ∃ g, r = .returned (.tuple #[.slice (some ⟨g, 0, none⟩) l.length l.length, .int .i64 0]) ∧ Row w' g l ∧ w.heap.size ≤ g ∧ Below w.heap.size w w'
set_option maxRecDepth 100000 in
set_option maxHeartbeats 2000000 in
theorem con11_sp {w : World} {q h : Nat} {L : List (List UInt8)} {F : Nat → Prop} (t : TrL w q h L F) (Z : Tb w) (m n : Nat) (h1 : 1 ≤ m) (h2 : m ≤ n) (hn : n ≤ L.length) :
    Calls Tryz.prog 19 #[.pointer (some ⟨q, 0, none⟩), .int .i64 (m : Int), .int .i64 (n : Int)] w (RwP w (hsh L (Tree.prfF n 0 n m))) := by
  have i1 := had_any t (n : Int) true (by rw [decide_eq_true ⟨by omega, by omega⟩])
  have hn20 := t.n20
  have i2 := proof8_any (m : Int) (n : Int) w
  have eE : proofE (m : Int) (n : Int) = 0 := by unfold proofE; rw [if_pos ⟨by omega, by omega, by omega⟩]
  have eL : proofL (m : Int) (n : Int) = Tree.prfF n 0 n m := by unfold proofL; rw [if_pos eE, Int.toNat_natCast, Int.toNat_natCast]
  rw [eE, eL] at i2
  have j3 := fun (w' : World) (v : Value) (hb : Below w.heap.size w w') (ho : OwnP w' v (Tree.prfF n 0 n m)) => hashes11_any (t.below hb) (Z.below hb Z.lt) (Tree.prfF n 0 n m) v ho (fun s hs => by have := prf_in n 0 n m (by omega) (by omega) (by omega) s hs; omega) (Nat.le_trans (prfF_short n 0 n m) (by omega))
  have el := hsh_len L (Tree.prfF n 0 n m)
  generalize hsh L (Tree.prfF n 0 n m) = R at *
  generalize Tree.prfF n 0 n m = S at *
  have c0 : ¬ (m : Int) < 1 := by omega
  have c1 : ¬ (n : Int) < (m : Int) := by omega
  clear t Z eE eL hn h1 h2 hn20
  go_enter Tryz.func19, Tryz.ntmps19
  go_wp2_with (first
    | (go_at_call 47; refine i1.mono ?_; rintro r w1 ⟨rfl, h0⟩; have h0 := h0.symm; subst h0)
    | (go_at_call 48; fail))
  refine i2.mono ?_
  rintro r w2 ⟨b2, v2, rfl, o2, f2⟩
  have i3 := j3 w2 v2 b2 o2
  have B2 := hid b2
  have hmf : ∀ (fn : Fn) (first cap : Array Value) (w : World), (Instr.makeFunc fn first cap).run Tryz.prog w = .ok (.func fn first cap) w := fun _ _ _ _ => rfl
  clear j3 o2 f2 b2
  go_wp2_with (go_at_call 49; refine i3.mono ?_; rintro r w3 ⟨rfl, R3, b3⟩)
  go_ret2
  exact ⟨_, by rw [el]; rfl, R3, B2.out.size, B2.out.trans (b3.mono B2.out.size)⟩
theorem con11_ok {w : World} {q h : Nat} {L : List (List UInt8)} {F : Nat → Prop} (t : TrL w q h L F) (Z : Tb w) (m n : Nat) (h1 : 1 ≤ m) (h2 : m ≤ n) (hn : n ≤ L.length) :
    Calls Tryz.prog 19 #[.pointer (some ⟨q, 0, none⟩), .int .i64 (m : Int), .int .i64 (n : Int)] w (RwP w (Tree.proof m (L.take n) true)) := by
  rw [← hsh_proof L h1 h2 hn]; exact con11_sp t Z m n h1 h2 hn
end Go.Proofs.YtappjeepajjioaaGreatDoor
