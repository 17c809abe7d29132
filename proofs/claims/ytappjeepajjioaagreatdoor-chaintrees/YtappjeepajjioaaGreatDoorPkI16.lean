import Derived.Test.YtappjeepajjioaaGreatDoorPkI15
namespace Go.Proofs.YtappjeepajjioaaGreatDoor
open Go.RowKit
theorem Own.at4 {w : World} {base : Nat} {v : Value} {L : List (List UInt8)} (h : Own w base v (svs L)) : ∃ a cap, v = .slice a L.length cap ∧ At w a L ∧ L.length ≤ cap ∧ cap ≤ 9223372036854775807 := by
  rcases h with ⟨rfl, h⟩ | ⟨g, cap, rfl, h1, h2, h3, h4, h5, h6⟩
  · obtain rfl : L = [] := by simpa [svs] using h
    exact ⟨none, 0, rfl, At.nil _ _, by simp, by omega⟩
  · rw [svs_length] at h2
    refine ⟨some ⟨g, 0, none⟩, cap, by rw [svs_length], fun j p hp => ⟨_, rfl, h6, ?_⟩, h2, h3⟩
    rw [Addr.add_mid]
    exact h4 j (sv p) (by simp [svs, hp])
theorem Tree.upd_len : ∀ (ds : List Bool) (hs : List (List UInt8)) (r : List UInt8), r.length = 32 → hs.all (·.length == 32) = true → (Tree.upd r ds hs).length = 32
  | [], _, r, h, _ => by unfold Tree.upd; exact h
  | d :: ds, [], r, h, _ => by unfold Tree.upd; exact h
  | d :: ds, x :: hs, r, h, ha => by
    rw [List.all_cons, Bool.and_eq_true] at ha
    have hx : x.length = 32 := by simpa using ha.1
    unfold Tree.upd
    refine Tree.upd_len ds hs _ ?_ ha.2
    cases d
    · exact Tree.nd_length h hx
    · exact Tree.nd_length hx h
/-- of a size and an index that may be -/
theorem place_ok {n k : Int} (h1 : 1 ≤ n) (h2 : n ≤ 1099511627776) (h3 : 0 ≤ k) (h4 : k < n) : ∃ L : Nat, L ≤ 40 ∧ lenOf n k = ((L : Int), 0) ∧ (Tree.D n.toNat k.toNat).length = L := by
  refine ⟨(Tree.D n.toNat k.toNat).length, ?_, ?_, rfl⟩
  · rw [Tree.D_U _ _ _ (Nat.le_refl _) (by omega)]
    exact Tree.U_len 40 _ _ (by omega)
  · rw [lenOf, if_neg (by omega), if_neg (by omega)]
theorem rootOf_ok {n k : Int} {L : Nat} {x : List UInt8} {X : List (List UInt8)} (h : lenOf n k = ((L : Int), 0)) (hx : x.length = 32) (hX : X.length = L) (ha : X.all (·.length == 32) = true) : ∃ r, rootOf4 n k x X = (r, 0) ∧ r.length = 32 := by
  refine ⟨Tree.upd x (Tree.D n.toNat k.toNat) X, ?_, Tree.upd_len _ _ _ hx ha⟩
  rw [rootOf4, h, if_pos rfl, if_pos]
  unfold chk
  rw [if_pos ⟨hx, ha⟩, if_pos (by omega)]
theorem inc_is {n k : Int} {x r : List UInt8} {X : List (List UInt8)} (h : rootOf4 n k x X = (r, 0)) (root : List UInt8) : incOf4 n k x X root = if root.length = 32 then (if r = root then 0 else 44) else 42 := by
  rw [incOf4, h, if_pos rfl]
end Go.Proofs.YtappjeepajjioaaGreatDoor
