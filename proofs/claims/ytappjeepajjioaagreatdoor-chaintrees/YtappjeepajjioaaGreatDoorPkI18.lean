import Derived.Test.YtappjeepajjioaaGreatDoorPkI16
import Derived.Test.YtappjeepajjioaaGreatDoorPkO8
namespace Go.Proofs.YtappjeepajjioaaGreatDoor
open Go.RowKit
namespace Tree
theorem hs_of_all {l : List T} (h : l.all (·.length == 32) = true) : Hs l := fun x hx => by
  have := List.all_eq_true.1 h x hx
  simpa using this
theorem all_of_hs {l : List T} (h : Hs l) : l.all (·.length == 32) = true := by
  rw [List.all_eq_true]
  intro x hx
  simpa using h x hx
theorem Hs.app {a b : List T} (ha : Hs a) (hb : Hs b) : Hs (a ++ b) := fun x hx => by
  rcases List.mem_append.1 hx with h | h
  · exact ha x h
  · exact hb x h
theorem Hs.one {a : T} (ha : a.length = 32) : Hs [a] := fun x hx => by
  rw [List.mem_singleton] at hx
  rw [hx]; exact ha
theorem path_hs4 : ∀ (f m : Nat) (l : List T), l.length ≤ f → Hs l → Hs (path m l)
  | 0, m, l, h, _ => by rw [path_small (by omega)]; intro x hx; cases hx
  | f + 1, m, l, h, hl => by
    by_cases h2 : l.length < 2
    · rw [path_small h2]; intro x hx; cases hx
    · have a := sp_lt (n := l.length) (by omega)
      have b := sp_pos (n := l.length) (by omega)
      rw [path_cut (by omega)]
      split
      · exact (path_hs4 f m _ (by simp; omega) (hl.take _)).app (Hs.one (root_hash (hl.drop _)))
      · exact (path_hs4 f _ _ (by simp; omega) (hl.drop _)).app (Hs.one (root_hash (hl.take _)))
theorem proof_hs4 : ∀ (f m : Nat) (l : List T) (whole : Bool), 1 ≤ m → m ≤ l.length → l.length ≤ f → Hs l → Hs (proof m l whole)
  | 0, m, l, whole, h1, h2, hf, _ => by omega
  | f + 1, m, l, whole, h1, h2, hf, hl => by
    by_cases h : m = l.length
    · subst h
      cases whole
      · rw [proof_part h1]; exact Hs.one (root_hash hl)
      · rw [proof_whole h1]; intro x hx; cases hx
    · have a := sp_lt (n := l.length) (by omega)
      have b := sp_pos (n := l.length) (by omega)
      by_cases hm : m ≤ sp l.length
      · rw [proof_left h1 (by omega) hm]
        exact (proof_hs4 f m _ whole h1 (by simp; omega) (by simp; omega) (hl.take _)).app (Hs.one (root_hash (hl.drop _)))
      · rw [proof_right h1 (by omega) hm]
        exact (proof_hs4 f _ _ false (by omega) (by simp; omega) (by simp; omega) (hl.drop _)).app (Hs.one (root_hash (hl.take _)))
end Tree
/-- V4 -/
structure TreeSays (X : List (List UInt8)) (K M : Nat) (leaf : List UInt8) : Prop where
  pl : lenOf (X.length : Nat) (K : Nat) = ((((Tree.path K X).length : Nat) : Int), 0)
  ql : prfLen (M : Nat) (X.length : Nat) = ((((Tree.proof M X true).length : Nat) : Int), 0)
  root : rootOf4 (X.length : Nat) (K : Nat) leaf (Tree.path K X) = (Tree.root X, 0)
  roots : rootsOf4 (M : Nat) (X.length : Nat) (Tree.root (X.take M)) (Tree.proof M X true) = ((Tree.root (X.take M), Tree.root X), 0)
theorem treeSays {X : List (List UInt8)} {K M : Nat} {leaf : List UInt8} (hX : Tree.Hs X) (hn : X.length ≤ 1000) (hK : X[K]? = some leaf) (h1 : 1 ≤ M) (h2 : M ≤ X.length) : TreeSays X K M leaf := by
  have hKl : K < X.length := by
    rcases Nat.lt_or_ge K X.length with h | h
    · exact h
    · rw [List.getElem?_eq_none h] at hK; cases hK
  obtain ⟨p1, p2⟩ := Tree.path_D _ K X leaf hK (Nat.le_refl _)
  obtain ⟨q1, q2⟩ := Tree.proof_PD _ M X true h1 h2 (Nat.le_refl _)
  have hleaf : leaf.length = 32 := hX leaf (List.mem_of_getElem? hK)
  have e1 : lenOf (X.length : Nat) (K : Nat) = ((((Tree.path K X).length : Nat) : Int), 0) := by
    rw [lenOf, if_neg (by omega), if_neg (by omega), Int.toNat_natCast, Int.toNat_natCast, p1]
  have e2 : prfLen (M : Nat) (X.length : Nat) = ((((Tree.proof M X true).length : Nat) : Int), 0) := by
    rw [prfLen, if_neg (by omega), Int.toNat_natCast, Int.toNat_natCast, q1]
  refine ⟨e1, e2, ?_, ?_⟩
  · rw [rootOf4, e1, if_pos rfl, if_pos, Int.toNat_natCast, Int.toNat_natCast, p2]
    unfold chk
    rw [if_pos ⟨hleaf, Tree.all_of_hs (Tree.path_hs4 _ K X (Nat.le_refl _) hX)⟩, if_pos rfl]
  · rw [rootsOf4, e2, if_pos rfl, if_pos, Int.toNat_natCast, Int.toNat_natCast, q2 _ (fun _ => rfl)]
    unfold chk
    rw [if_pos ⟨Tree.root_hash (hX.take M), Tree.all_of_hs (Tree.proof_hs4 _ M X true h1 h2 (Nat.le_refl _) hX)⟩, if_pos rfl]
theorem wrg_hs4 {l : List (List UInt8)} (h : Tree.Hs l) (hl : l.length ≤ 4096) : wrg l = 0 := by
  rw [wrg, if_neg (by omega), if_pos (Tree.all_of_hs h)]
theorem ProofLen_at {m n : Int} {L : Nat} (h : prfLen m n = ((L : Int), 0)) (w : World) :
    Calls Tryz.prog 86 #[.int .i64 m, .int .i64 n] w fun e w' => e = .returned (.tuple #[.int .i64 (L : Int), .int .i64 0]) ∧ Below w.heap.size w w' := by
  have := ProofLen_any m n w
  rwa [h] at this
theorem RootsOf_at {m n : Int} {old : List UInt8} {proof : List (List UInt8)} {x y : List UInt8} {z : Int} (h : Hid (rootsOf4 m n old proof = ((x, y), z))) (a : Option Addr) (k cap : Nat) (w : World) (hk : proof.length = k) (hc : k ≤ 9223372036854775807) (hA : At w a proof) (T : Tabs w) :
    Calls Tryz.prog 42 #[.int .i64 m, .int .i64 n, sv old, .slice a k cap] w fun e w' => e = .returned (.tuple #[sv x, sv y, .int .i64 z]) ∧ Below w.heap.size w w' := by
  have := RootsOf_any m n old proof a cap w (by omega) hA T
  rwa [h.out, hk] at this
theorem Consistency_at {m n : Int} {old now : List UInt8} {proof : List (List UInt8)} {z : Int} (h : Hid (conOf4 m n old now proof = z)) (a : Option Addr) (k cap : Nat) (w : World) (hk : proof.length = k) (hc : k ≤ 9223372036854775807) (hA : At w a proof) (T : Tabs w) :
    Calls Tryz.prog 15 #[.int .i64 m, .int .i64 n, sv old, sv now, .slice a k cap] w fun e w' => e = .returned (.int .i64 z) ∧ Below w.heap.size w w' := by
  have := Consistency_any m n old now proof a cap w (by omega) hA T
  rwa [h.out, hk] at this
end Go.Proofs.YtappjeepajjioaaGreatDoor
