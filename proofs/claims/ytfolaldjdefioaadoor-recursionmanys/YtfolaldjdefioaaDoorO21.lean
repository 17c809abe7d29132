import Derived.Test.YtfolaldjdefioaaDoorO20
namespace Go.Proofs.YtfolaldjdefioaaDoor
open Go.RowKit
theorem Own.at {w : World} {base : Nat} {v : Value} {L : List (List UInt8)} (h : Own w base v (svs L)) : ∃ a cap, v = .slice a L.length cap ∧ At w a L ∧ L.length ≤ cap ∧ cap ≤ 9223372036854775807 := by
  rcases h with ⟨rfl, h⟩ | ⟨g, cap, rfl, h1, h2, h3, h4, h5, h6⟩
  · obtain rfl : L = [] := by simpa [svs] using h
    exact ⟨none, 0, rfl, At.nil _ _, by simp, by omega⟩
  · rw [svs_length] at h2
    refine ⟨some ⟨g, 0, none⟩, cap, by rw [svs_length], fun j p hp => ⟨_, rfl, h6, ?_⟩, h2, h3⟩
    rw [Addr.add_mid]
    exact h4 j (sv p) (by simp [svs, hp])
theorem wrg_hs {l : List (List UInt8)} (h : Tree.Hs l) (hl : l.length ≤ 4096) : wrg l = 0 := by
  rw [wrg, if_neg (by omega), if_pos]
  rw [List.all_eq_true]
  intro x hx
  simpa using h x hx
theorem Proof_hs {l : List (List UInt8)} (h : Tree.Hs l) (hl : l.length ≤ 4096) (m : Nat) (h1 : 1 ≤ m) (h2 : m ≤ l.length) (a : Option Addr) (cap : Nat) (w : World) (hlc : l.length ≤ cap) (hc : cap ≤ 9223372036854775807) (hA : At w a l) (T : Tabs w) :
    Calls Tryd.prog 14 #[.slice a l.length cap, .int .i64 m] w (Out2 w (Tree.proof m l true, 0)) := by
  have := Proof_any l m a cap w hlc hc hA T
  rwa [proofOut, if_pos (wrg_hs h hl), if_pos (by omega), Int.toNat_natCast] at this
theorem Root_hs {l : List (List UInt8)} (h : Tree.Hs l) (hl : l.length ≤ 4096) (a : Option Addr) (cap : Nat) (w : World) (hlc : l.length ≤ cap) (hc : cap ≤ 9223372036854775807) (hA : At w a l) (T : Tabs w) :
    Calls Tryd.prog 15 #[.slice a l.length cap] w fun e w' => e = .returned (.tuple #[sv (Tree.root l), .int .i64 0]) ∧ Below w.heap.size w w' := by
  have := Root_any l a cap w hlc hc hA T
  rwa [rootOut, if_pos (wrg_hs h hl)] at this
theorem Part_hs {l : List (List UInt8)} (h : Tree.Hs l) (hl : l.length ≤ 4096) (a : Option Addr) (cap : Nat) (w : World) (hlc : l.length ≤ cap) (hc : cap ≤ 9223372036854775807) (hA : At w a l) (T : Tabs w) :
    Calls Tryd.prog 16 #[.slice a l.length cap, .agg #[.int .i64 0, .int .i64 (l.length : Nat)]] w fun e w' => e = .returned (.tuple #[sv (Tree.root l), .int .i64 0]) ∧ Below w.heap.size w w' := by
  have := Part_any l 0 (l.length : Nat) a cap w hlc hc hA T
  rwa [partOut, if_pos (wrg_hs h hl), if_pos (by omega), Int.toNat_natCast, List.take_length, show Int.toNat 0 = 0 from rfl, List.drop_zero] at this
theorem Tabs.next {w w' : World} (h : Tabs w) (hb : Below w.heap.size w w') : Tabs w' := h.below hb h.lt
set_option maxRecDepth 100000 in
set_option maxHeartbeats 1000000 in
theorem grows_any (cs : List Int) (at_ : Int) (a : Option Addr) (cap : Nat) (w : World) (hcs : cs.length ≤ 9223372036854775807) (h1 : -9223372036854775808 ≤ at_) (h2 : at_ ≤ 9223372036854775807) (hA : AtI w a cs) (T : Tabs w) :
    Calls Tryd.prog 4 #[.slice a cs.length cap, .int .i64 at_] w fun e w' => e = .returned (.bool true) ∧ Below w.heap.size w w' := by
  have HT := hid T
  have HA := hid hA
  clear T hA
  go_enter Tryd.func4, Tryd.ntmps4
  go_wp2_with (go_at_call 9; fail)
  refine (known_any _ HT.out).mono ?_
  rintro e w1 ⟨rfl, hw1⟩
  have B1 := hid hw1
  have T1 := hid (HT.out.next hw1)
  have A1 := hid (HA.out.below hw1 (Nat.le_refl _))
  clear hw1 HA
  go_wp2_with (go_at_call 12; fail)
  refine (numbered_any cs 300 (by omega) a cap _ hcs A1.out).mono ?_
  rintro e w2 ⟨v, rfl, hO, hw2⟩
  have hs := hid (nums_hs cs 300)
  have hlen := nums_len cs 300
  have B2 := hid (B1.out.trans (hw2.mono B1.out.size))
  have T2 := hid (T1.out.next hw2)
  obtain ⟨a2, cap2, rfl, hA2, hl2, hc2⟩ := hO.at
  have A2 := hid hA2
  clear hO hA2 hw2 B1 T1 A1
  generalize hL : nums cs 300 = L at *
  clear hL
  by_cases h0 : L.length = 0
  · rw [h0]
    go_wp2
    go_ret
    exact ⟨rfl, B2.out⟩
  · obtain ⟨n, hn⟩ : ∃ n : Nat, L.length = n := ⟨_, rfl⟩
    have hn0 : 0 < n := by omega
    have hn3 : n ≤ 300 := by omega
    have z0 : ((n : Int) == 0) = false := by simp; omega
    have hp0 := pk_nonneg at_ n (by omega)
    have hp1 := pk_lt at_ n (by omega)
    obtain ⟨j, hj⟩ : ∃ j : Nat, pk at_ n = (j : Int) := ⟨(pk at_ n).toNat, by omega⟩
    have cp := pick_any at_ n h1 h2 (by omega) (by omega)
    rw [hj] at hp0 hp1 cp
    obtain ⟨m, hm⟩ : ∃ m : Nat, Hid (m = j + 1) := ⟨_, rfl⟩
    have em1 := hid (show (1 : Int) + (j : Int) = (m : Int) by have := hm.out; omega)
    have em2 := hid (show (j : Int) + 1 = (m : Int) by have := hm.out; omega)
    have m1 : 1 ≤ m := by have := hm.out; omega
    have m2 : m ≤ n := by have := hm.out; omega
    obtain ⟨x, rfl⟩ := A2.out.pos (by omega)
    have cP := Proof_hs hs.out (by omega) m (by omega) (by omega) (some x) cap2 w2 hl2 hc2 A2.out T2.out
    have cR := fun w' h => Root_hs (hs.out.take m) (by simp; omega) (some x) cap2 w' (by simp; omega) hc2 h
    have lm : (L.take m).length = m := by simp; omega
    have cQ := fun w' h => Part_hs hs.out (by omega) (some x) cap2 w' hl2 hc2 h
    have cG := fun w' a' c' h1 h2 h3 h4 => grown_any _ L m true (Tree.root (L.take m)) a' c' w' (Nat.le_refl _) (by omega) (by omega) (by omega) h1 h2 h3 h4 (fun _ => rfl)
    have hmn : m = n → (Tree.proof m L true).length = 0 := fun e => by rw [e, ← hn, Tree.proof_whole (by omega)]; rfl
    rw [lm] at cR
    have HA3 := hid (A2.out.take m)
    rw [hn] at cP cQ cG ⊢
    have hpl := Tree.proof_length _ m L true (Nat.le_refl _) (by omega) (by omega)
    generalize hP : Tree.proof m L true = P at *
    generalize hr1 : Tree.root (L.take m) = r1 at *
    generalize hr2 : Tree.root L = r2 at *
    clear hr1 hr2 hP
    go_wp2_with (go_at_call 13; fail)
    refine (cp _).mono ?_
    rintro e w' ⟨rfl, rfl⟩
    go_wp2_with (go_at_call 14; fail)
    first | rw [em1.out] | rw [em2.out]
    refine cP.mono ?_
    rintro e w3 ⟨vp, rfl, hOp, hw3⟩
    have B3 := hid (B2.out.trans (hw3.mono B2.out.size))
    have T3 := hid (T2.out.next hw3)
    have A3 := hid (HA3.out.below hw3 (Nat.le_refl _))
    have A3' := hid (A2.out.below hw3 (Nat.le_refl _))
    obtain ⟨ap, capp, rfl, hAp, hlp, hcp⟩ := hOp.at
    have AP := hid hAp
    clear hAp hOp hw3 A2 HA3 B2 T2 cP cp
    dsimp only at hlp
    have t0 : (m : Int) ≤ (cap2 : Int) := by omega
    go_wp2_with (go_at_call 15; fail)
    refine (cR _ A3.out T3.out).mono ?_
    rintro e w4 ⟨rfl, hw4⟩
    have B4 := hid (B3.out.trans (hw4.mono B3.out.size))
    have T4 := hid (T3.out.next hw4)
    have A4 := hid (A3'.out.below hw4 (Nat.le_refl _))
    have AP4 := hid (AP.out.below hw4 (Nat.le_refl _))
    clear hw4 A3 A3' B3 T3 AP cR
    go_wp2_with (go_at_call 16; fail)
    refine (cQ _ A4.out T4.out).mono ?_
    rintro e w5 ⟨rfl, hw5⟩
    have B5 := hid (B4.out.trans (hw5.mono B4.out.size))
    have T5 := hid (T4.out.next hw5)
    have AP5 := hid (AP4.out.below hw5 (Nat.le_refl _))
    clear hw5 A4 B4 T4 AP4 cQ
    go_wp2_with (go_at_call 17; fail)
    refine (cG _ ap capp hlp hcp AP5.out T5.out).mono ?_
    rintro e w6 ⟨rfl, hw6⟩
    have B6 := hid (B5.out.trans (hw6.mono B5.out.size))
    clear hw6 B5 T5 AP5 cG
    rw [svS r1, svS r2]
    generalize P.length = q at *
    by_cases hmn' : m = n
    · obtain rfl := hmn hmn'
      have y0 : ((m : Int) != (n : Int)) = false := by simp; omega
      go_wp2
      go_ret
      exact ⟨rfl, B6.out⟩
    · have y0 : ((m : Int) != (n : Int)) = true := by simp; omega
      go_wp2
      go_ret
      exact ⟨rfl, B6.out⟩
end Go.Proofs.YtfolaldjdefioaaDoor
