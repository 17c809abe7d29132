import Derived.Test.YtjodbmbadhbblaaDoorCSL6
import Derived.Test.YtjodbmbadhbblaaDoorCSH6
namespace Go.Proofs.YtjodbmbadhbblaaDoor
open Go.RowKit Go.Shelf
theorem ix_get {r : List Nat} {j x : Nat} (h : r[j]? = some x) : (ix r)[j]? = some (x : Int) := by unfold ix; rw [List.getElem?_map, h]; rfl
theorem pm_get {L : List (Nat × Nat)} {j : Nat} {s : Nat × Nat} (h : L[j]? = some s) : (L.map fun s => ((s.1 : Int), (s.2 : Int)))[j]? = some ((s.1 : Int), (s.2 : Int)) := by rw [List.getElem?_map, h]; rfl
theorem drop_get {L : List (Nat × Nat)} {j : Nat} {s : Nat × Nat} (h : L[j]? = some s) : L.drop j = s :: L.drop (j + 1) := by
  have hj : j < L.length := by
    rcases Nat.lt_or_ge j L.length with h2 | h2
    · exact h2
    · rw [List.getElem?_eq_none h2] at h; cases h
  rw [List.getElem?_eq_getElem hj] at h
  rw [List.drop_eq_getElem_cons hj, Option.some.inj h]
set_option maxRecDepth 100000 in
set_option maxHeartbeats 4000000 in
theorem apart_any (n : Nat) (L : List (Nat × Nat)) (r : List Nat) (al ar : Option Addr) (cl cr : Nat) (hn : n ≤ 1099511627776) (hL : L.length ≤ 1099511627776) (hrl : r.length ≤ 1099511627776) (hs : r.Pairwise (· < ·)) (hr : ∀ x ∈ r, x < n) (hap : Tree.Apt 0 n L (fun i => decide (i ∈ r))) (w : World) (h1 : AtP w al (L.map fun s => ((s.1 : Int), (s.2 : Int)))) (h2 : AtI w ar (ix r)) :
    Calls Tryd.prog 24 #[.int .i64 (n : Int), .slice al L.length cl, .slice ar r.length cr] w fun e w' => e = .returned (.bool true) ∧ Below w.heap.size w w' := by
  have H1 := hid h1
  have H2 := hid h2
  have HS := hid hs
  have HR := hid hr
  have S0 := hid (Tree.Stand.start hap)
  clear h1 h2 hs hr hap
  obtain ⟨M, hM⟩ : ∃ M, Hid (L.length = M) := ⟨_, rfl⟩
  obtain ⟨N, hN⟩ : ∃ N, Hid (r.length = N) := ⟨_, rfl⟩
  rw [hM.out] at hL ⊢
  rw [hN.out] at hrl ⊢
  go_enter Tryd.func24, Tryd.ntmps24
  go_wp2
  go_loopw [7, 8, 9] (fun a k i wr => ∃ A K I : Nat, a = .int .i64 (A : Int) ∧ k = .int .i64 (K : Int) ∧ i = .int .i64 (I : Int) ∧ I ≤ M ∧ Hid (Tree.Stand r n A K (L.drop I)) ∧ Hid (Below w.heap.size w wr)) (fun _ _ i _ => M + 1 - (intOf i).toNat)
  case atStart => exact ⟨0, 0, 0, rfl, rfl, rfl, by omega, S0, Below.refl _ _⟩
  case round =>
    clear S0
    obtain ⟨A, K, I, rfl, rfl, rfl, hI, hS, hB⟩ := hrel
    have b0 : (I : Int) ≤ (M : Int) := by omega
    obtain ⟨T, hT⟩ : ∃ T, Hid (Tree.tgt n (L.drop I) = T) := ⟨_, rfl⟩
    have hP := hid (hS.out.pos HR.out)
    rw [hT.out] at hP
    have hTn : T ≤ n := by
      rw [← hT.out]
      have ap := hS.out.ap
      cases hd : L.drop I with
      | nil => exact Nat.le_refl _
      | cons s rest =>
        rw [hd] at ap
        obtain ⟨a1, a2, a3, a4, a5, a6⟩ := ap
        show s.1 ≤ n
        omega
    go_wp2
    go_loopw [7, 8] (fun a k ws => ∃ A' K' : Nat, a = .int .i64 (A' : Int) ∧ k = .int .i64 (K' : Int) ∧ A' ≤ T ∧ K' ≤ N ∧ Hid (Tree.Pos r A' K' T) ∧ Hid (Below w.heap.size w ws)) (fun a _ _ => T - (intOf a).toNat)
    case atStart => exact ⟨A, K, rfl, rfl, hP.out.le, by have := hP.out.kl; have := hN.out; omega, hP, hB⟩
    case round =>
      clear hP hB
      obtain ⟨A', K', rfl, rfl, hA', hK', hP, hB⟩ := hrel
      have k0 : (0 : Int) ≤ (K' : Int) := by omega
      by_cases hgo : A' < T
      · obtain ⟨hg, hP2⟩ := hP.out.at HS.out hgo
        have hP2 := hid hP2
        have hKN : K' < N := by
          have := hP2.out.kl
          have := hN.out
          omega
        have b1 : (K' : Int) < (N : Int) := by omega
        obtain ⟨x, rfl, _, hc⟩ := (H2.out.below hB.out (Nat.le_refl _)) K' _ (ix_get hg)
        have wA : IntKind.i64.wrap ((A' : Int) + 1) = ((A' + 1 : Nat) : Int) := by rw [IntKind.wrap_i64]; omega
        have wK : IntKind.i64.wrap ((K' : Int) + 1) = ((K' + 1 : Nat) : Int) := by rw [IntKind.wrap_i64]; omega
        clear hg
        go_wp2
        exact ⟨⟨A' + 1, K' + 1, by go_num, by go_num, by omega, by omega, hP2, hB⟩, by simp [intOf]; omega⟩
      · obtain rfl : A' = T := by omega
        clear hgo
        by_cases hKN : K' < N
        · have b1 : (K' : Int) < (N : Int) := by omega
          obtain ⟨x, hx⟩ : ∃ x, r[K']? = some x := ⟨_, List.getElem?_eq_getElem (by have := hN.out; omega)⟩
          have hne := hP.out.done hx
          have hne' : ¬ (x : Int) = (A' : Int) := by omega
          obtain ⟨xa, rfl, _, hc⟩ := (H2.out.below hB.out (Nat.le_refl _)) K' _ (ix_get hx)
          clear hx hne
          by_cases hIM : I = M
          · subst hIM
            rw [List.drop_eq_nil_of_le (by have := hM.out; omega)] at hT
            have hT : n = A' := hT.out
            subst hT
            have hKe := Tree.Stand.last HR.out hP.out
            rw [hN.out] at hKe
            omega
          · have c0 : ¬ (I : Int) = (M : Int) := by omega
            have i0 : (0 : Int) ≤ (I : Int) := by omega
            have c1 : (I : Int) < (M : Int) := by omega
            obtain ⟨⟨B, E⟩, hq⟩ : ∃ s, L[I]? = some s := ⟨_, List.getElem?_eq_getElem (by have := hM.out; omega)⟩
            have hd := drop_get hq
            rw [hd] at hT hS
            have hT : B = A' := hT.out
            subst hT
            obtain ⟨n1, n2, n3⟩ := hS.out.next hP.out rfl
            have n1 : B < E := n1
            have n2 : E ≤ n := n2
            have n3 : Hid (Tree.Stand r n E K' (L.drop (I + 1))) := n3
            obtain ⟨g1, rfl, _, p0', p1'⟩ := (H1.out.below hB.out (Nat.le_refl _)) I _ (pm_get hq)
            have p0 : wr.cell? ⟨g1, I * 2, none⟩ = some (.int .i64 (B : Int)) := p0'
            have p1 : wr.cell? ⟨g1, I * 2 + 1, none⟩ = some (.int .i64 (E : Int)) := p1'
            have l1 : ¬ (E : Int) ≤ (B : Int) := by omega
            have wI : IntKind.i64.wrap ((I : Int) + 1) = ((I + 1 : Nat) : Int) := by rw [IntKind.wrap_i64]; omega
            clear hq hd hS hP p0' p1'
            go_wp2
            exact ⟨⟨E, K', I + 1, by go_num, by go_num, by go_num, by omega, n3, hB⟩, by simp [intOf]; omega⟩
        · obtain rfl : K' = N := by omega
          have b1 : ¬ (K' : Int) < (K' : Int) := by omega
          clear hKN
          by_cases hIM : I = M
          · subst hIM
            rw [List.drop_eq_nil_of_le (by have := hM.out; omega)] at hT
            have hT : n = A' := hT.out
            subst hT
            have hKe := Tree.Stand.last HR.out hP.out
            rw [hN.out] at hKe
            clear hKe
            go_wp2
            go_ret
            exact ⟨rfl, hB.out⟩
          · have c0 : ¬ (I : Int) = (M : Int) := by omega
            have i0 : (0 : Int) ≤ (I : Int) := by omega
            have c1 : (I : Int) < (M : Int) := by omega
            obtain ⟨⟨B, E⟩, hq⟩ : ∃ s, L[I]? = some s := ⟨_, List.getElem?_eq_getElem (by have := hM.out; omega)⟩
            have hd := drop_get hq
            rw [hd] at hT hS
            have hT : B = A' := hT.out
            subst hT
            obtain ⟨n1, n2, n3⟩ := hS.out.next hP.out rfl
            have n1 : B < E := n1
            have n2 : E ≤ n := n2
            have n3 : Hid (Tree.Stand r n E K' (L.drop (I + 1))) := n3
            obtain ⟨g1, rfl, _, p0', p1'⟩ := (H1.out.below hB.out (Nat.le_refl _)) I _ (pm_get hq)
            have p0 : wr.cell? ⟨g1, I * 2, none⟩ = some (.int .i64 (B : Int)) := p0'
            have p1 : wr.cell? ⟨g1, I * 2 + 1, none⟩ = some (.int .i64 (E : Int)) := p1'
            have l1 : ¬ (E : Int) ≤ (B : Int) := by omega
            have wI : IntKind.i64.wrap ((I : Int) + 1) = ((I + 1 : Nat) : Int) := by rw [IntKind.wrap_i64]; omega
            clear hq hd hS hP p0' p1'
            go_wp2
            exact ⟨⟨E, K', I + 1, by go_num, by go_num, by go_num, by omega, n3, hB⟩, by simp [intOf]; omega⟩
end Go.Proofs.YtjodbmbadhbblaaDoor
