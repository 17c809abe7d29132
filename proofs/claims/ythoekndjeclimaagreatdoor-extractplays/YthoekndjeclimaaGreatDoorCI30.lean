import Derived.Test.YthoekndjeclimaaGreatDoorCI23
import Derived.Test.YthoekndjeclimaaGreatDoorCXP5
import Derived.Test.YthoekndjeclimaaGreatDoorCEP17
namespace Go.Proofs.YthoekndjeclimaaGreatDoor
open Go.RowKit
theorem pair_ok {m n : Int} (h1 : 1 ≤ m) (h2 : m ≤ n) (h3 : n ≤ 1099511627776) : ∃ L : Nat, L ≤ 41 ∧ prfLen m n = ((L : Int), 0) := by
  refine ⟨Tree.pl m.toNat n.toNat true, ?_, by rw [prfLen, if_neg (by omega)]⟩
  by_cases he : m.toNat = n.toNat
  · rw [he, Tree.pl_same]; decide
  · obtain ⟨P, L, hS⟩ : ∃ P L, Tree.St (m.toNat - 1) (n.toNat - 1) = (P, L) := ⟨_, _, rfl⟩
    have hle := Tree.St_le (m.toNat - 1) (n.toNat - 1)
    rw [hS] at hle
    simp only at hle
    rw [Tree.pl_St (by omega) (by omega) hS]
    have := Tree.U_len 40 P L (by omega)
    split <;> omega
set_option maxRecDepth 100000 in
set_option maxHeartbeats 600000 in
theorem rRootsOf_any (m n : Int) (old : List UInt8) (proof : List (List UInt8)) (a : Option Addr) (cap : Nat) (w : World) (hc : proof.length ≤ cap ∧ cap ≤ 9223372036854775807) (hA : At w a proof) :
    Calls Tryz.prog 60 #[.int .i64 m, .int .i64 n, sv old, .slice a proof.length cap] w fun e w' => e = .returned (.tuple #[sv (rootsOf4 m n old proof).1.1, sv (rootsOf4 m n old proof).1.2, .int .i64 (rootsOf4 m n old proof).2]) ∧ Below w.heap.size w w' := by
  obtain ⟨hlc, hc⟩ := hc
  have h1 := rProofLen_any m n w
  by_cases h : (prfLen m n).2 = 0
  · obtain ⟨a1, a2, a3, hl⟩ := prfLen_ok h
    have h2 := r4hashes_any proof a cap w (by omega) hA
    have hs := sv_size old
    by_cases hk : chk old proof (prfLen m n).1 = 0
    · have ho : rootsOf4 m n old proof = (Tree.bth m.toNat n.toNat true old proof, 0) := by rw [rootsOf4, if_pos h, if_pos hk]
      rw [ho]
      obtain ⟨hlen, hlf, hall⟩ := chk_len hk
      rw [hall] at h2
      rw [hl] at hlen h1
      simp only at hlen h1
      have h4 := rboth_any _ m.toNat n.toNat true old proof a cap w (Nat.le_refl _) (by omega) (by omega) (by omega) (by omega) hlc hc hA
      rw [Int.toNat_of_nonneg (show 0 ≤ m by omega), Int.toNat_of_nonneg (show 0 ≤ n by omega)] at h4
      generalize Tree.bth m.toNat n.toNat true old proof = X at *
      rw [hlf] at hs
      rw [show sv old = .string ⟨old.toArray⟩ from rfl] at h4 ⊢
      generalize ByteArray.mk old.toArray = LF at *
      have b0 : ((LF.size : Int) != 32) = false := by simp; omega
      generalize (Tree.pl m.toNat n.toNat true : Nat) = L at *
      obtain ⟨pl, hpl⟩ : ∃ pl, proof.length = pl := ⟨_, rfl⟩
      rw [hpl] at hlen h2 h4 hlc ⊢
      obtain rfl : pl = L := by omega
      have b1 : ((pl : Int) != (pl : Int)) = false := by simp
      clear hA hl hk h ho hlen hall hlf hpl
      go_enter Tryz.func60, Tryz.ntmps60
      go_wp2_with (first
        | (go_at_call 87; refine h1.mono ?_; rintro e w1 ⟨rfl, rfl⟩)
        | (go_at_call 74; refine h2.mono ?_; rintro e w2 ⟨rfl, rfl⟩)
        | (go_at_call 88; refine h4.mono ?_; rintro e w4 ⟨rfl, hw4⟩))
      go_ret3
      exact ⟨rfl, hw4⟩
    · have ho : rootsOf4 m n old proof = (([], []), chk old proof (prfLen m n).1) := by rw [rootsOf4, if_pos h, if_neg hk]
      rw [ho, svE]
      rw [hl] at h1 hk ⊢
      simp only at h1 hk ⊢
      generalize (Tree.pl m.toNat n.toNat true : Nat) = L at *
      unfold chk at hk ⊢
      by_cases h32 : old.length = 32 ∧ proof.all (·.length == 32) = true
      · rw [if_pos h32] at hk ⊢
        rw [h32.2] at h2
        have hne : ¬ ((proof.length : Nat) : Int) = (L : Int) := fun h => by rw [if_pos h] at hk; exact hk rfl
        rw [if_neg hne]
        rw [h32.1] at hs
        rw [show sv old = .string ⟨old.toArray⟩ from rfl]
        generalize ByteArray.mk old.toArray = LF at *
        have b0 : ((LF.size : Int) != 32) = false := by simp; omega
        generalize proof.length = pl at *
        have b1 : ((pl : Int) != (L : Int)) = true := by simp; omega
        clear hA hl ho h hk h32
        go_enter Tryz.func60, Tryz.ntmps60
        go_wp2_with (first
          | (go_at_call 87; refine h1.mono ?_; rintro e w1 ⟨rfl, rfl⟩)
          | (go_at_call 74; refine h2.mono ?_; rintro e w2 ⟨rfl, rfl⟩))
        go_ret3
        exact ⟨rfl, Below.refl _ _⟩
      · rw [if_neg h32]
        rw [show sv old = .string ⟨old.toArray⟩ from rfl]
        by_cases hlf : old.length = 32
        · have hall : proof.all (·.length == 32) = false := by
            cases hh : proof.all (·.length == 32)
            · rfl
            · exact absurd ⟨hlf, hh⟩ h32
          rw [hall] at h2
          rw [hlf] at hs
          generalize ByteArray.mk old.toArray = LF at *
          have b0 : ((LF.size : Int) != 32) = false := by simp; omega
          generalize proof.length = pl at *
          clear hA hl ho h hk h32
          go_enter Tryz.func60, Tryz.ntmps60
          go_wp2_with (first
            | (go_at_call 87; refine h1.mono ?_; rintro e w1 ⟨rfl, rfl⟩)
            | (go_at_call 74; refine h2.mono ?_; rintro e w2 ⟨rfl, rfl⟩))
          go_ret3
          exact ⟨rfl, Below.refl _ _⟩
        · generalize proof.all (·.length == 32) = bb at *
          generalize ByteArray.mk old.toArray = LF at *
          have b0 : ((LF.size : Int) != 32) = true := by simp; omega
          generalize proof.length = pl at *
          clear hA hl ho h hk h32
          go_enter Tryz.func60, Tryz.ntmps60
          go_wp2_with (first
            | (go_at_call 87; refine h1.mono ?_; rintro e w1 ⟨rfl, rfl⟩)
            | (go_at_call 74; refine h2.mono ?_; rintro e w2 ⟨rfl, rfl⟩))
          go_ret3
          exact ⟨rfl, Below.refl _ _⟩
  · have ho : rootsOf4 m n old proof = (([], []), (prfLen m n).2) := by rw [rootsOf4, if_neg h]
    rw [ho, svE]
    generalize (prfLen m n).1 = y at *
    generalize (prfLen m n).2 = z at *
    have b0 : (z != 0) = true := by simpa using h
    generalize proof.length = pl at *
    clear hA ho
    go_enter Tryz.func60, Tryz.ntmps60
    go_wp2_with (go_at_call 87; refine h1.mono ?_; rintro e w1 ⟨rfl, rfl⟩)
    go_ret3
    exact ⟨rfl, Below.refl _ _⟩
set_option maxRecDepth 100000 in
set_option maxHeartbeats 2000000 in
theorem rConsistency_any (m n : Int) (old now : List UInt8) (proof : List (List UInt8)) (a : Option Addr) (cap : Nat) (w : World) (hc : proof.length ≤ cap ∧ cap ≤ 9223372036854775807) (hA : At w a proof)  :
    Calls Tryz.prog 39 #[.int .i64 m, .int .i64 n, sv old, sv now, .slice a proof.length cap] w fun e w' => e = .returned (.int .i64 (conOf4 m n old now proof)) ∧ Below w.heap.size w w' := by
  have h1 := rRootsOf_any m n old proof a cap w hc hA 
  have hs := sv_size now
  unfold conOf4
  generalize rootsOf4 m n old proof = o at *
  obtain ⟨⟨x, y⟩, z⟩ := o
  simp only at h1 ⊢
  generalize proof.length = pl at *
  clear hA
  by_cases hz : z = 0
  · subst hz
    rw [if_pos rfl]
    by_cases h32 : now.length = 32
    · rw [if_pos h32]
      have i1 : ((((ByteArray.mk now.toArray).size : Nat) : Int) != 32) = false := by rw [hs]; simp [h32]
      by_cases hx : x = old
      · subst hx
        by_cases hy : y = now
        · subst hy
          rw [if_pos rfl]
          have e1 := str_eq x
          have e2 := str_eq y
          rw [show sv x = .string ⟨x.toArray⟩ from rfl] at h1 ⊢
          rw [show sv y = .string ⟨y.toArray⟩ from rfl] at h1 ⊢
          generalize ByteArray.mk x.toArray = R at *
          generalize ByteArray.mk y.toArray = R' at *
          go_enter Tryz.func39, Tryz.ntmps39
          go_wp2_with (first
            | (go_at_call 60; refine h1.mono ?_; rintro e w1 ⟨rfl, hw1⟩))
          go_ret
          exact ⟨rfl, hw1⟩
        · rw [if_neg (fun h => hy (congrArg Prod.snd h))]
          have e1 := str_eq x
          have e2 := str_ne hy
          have e3 := str_ne' hy
          have e4 := str_ne2 hy
          rw [show sv x = .string ⟨x.toArray⟩ from rfl] at h1 ⊢
          rw [show sv y = .string ⟨y.toArray⟩ from rfl] at h1
          rw [show sv now = .string ⟨now.toArray⟩ from rfl]
          generalize ByteArray.mk x.toArray = R at *
          generalize ByteArray.mk y.toArray = R1 at *
          generalize ByteArray.mk now.toArray = R2 at *
          go_enter Tryz.func39, Tryz.ntmps39
          go_wp2_with (first
            | (go_at_call 60; refine h1.mono ?_; rintro e w1 ⟨rfl, hw1⟩))
          go_ret
          exact ⟨rfl, hw1⟩
      · rw [if_neg (fun h => hx (congrArg Prod.fst h))]
        have e1 := str_ne hx
        have e3 := str_ne' hx
        have e4 := str_ne2 hx
        rw [show sv x = .string ⟨x.toArray⟩ from rfl] at h1
        rw [show sv y = .string ⟨y.toArray⟩ from rfl] at h1
        rw [show sv old = .string ⟨old.toArray⟩ from rfl] at h1 ⊢
        rw [show sv now = .string ⟨now.toArray⟩ from rfl]
        generalize ByteArray.mk x.toArray = R at *
        generalize ByteArray.mk y.toArray = R1 at *
        generalize ByteArray.mk now.toArray = R2 at *
        generalize ByteArray.mk old.toArray = R3 at *
        go_enter Tryz.func39, Tryz.ntmps39
        go_wp2_with (first
          | (go_at_call 60; refine h1.mono ?_; rintro e w1 ⟨rfl, hw1⟩))
        go_ret
        exact ⟨rfl, hw1⟩
    · rw [if_neg h32]
      have i1 : ((((ByteArray.mk now.toArray).size : Nat) : Int) != 32) = true := by rw [hs]; simp; try omega
      rw [show sv now = .string ⟨now.toArray⟩ from rfl]
      generalize ByteArray.mk now.toArray = R2 at *
      go_enter Tryz.func39, Tryz.ntmps39
      go_wp2_with (first
        | (go_at_call 60; refine h1.mono ?_; rintro e w1 ⟨rfl, hw1⟩))
      go_ret
      exact ⟨rfl, hw1⟩
  · rw [if_neg hz]
    have b0 : (z != 0) = true := by simpa using hz
    go_enter Tryz.func39, Tryz.ntmps39
    go_wp2_with (go_at_call 60; refine h1.mono ?_; rintro e w1 ⟨rfl, hw1⟩)
    go_ret
    exact ⟨rfl, hw1⟩
theorem RootsOf_at4 {m n : Int} {old : List UInt8} {proof : List (List UInt8)} {x y : List UInt8} {z : Int} (h : Hid (rootsOf4 m n old proof = ((x, y), z))) (a : Option Addr) (k cap : Nat) (w : World) (hk : proof.length = k) (hc : k ≤ 9223372036854775807) (hA : At w a proof) (T : Tabs w) :
    Calls Tryz.prog 57 #[.int .i64 m, .int .i64 n, sv old, .slice a k cap] w fun e w' => e = .returned (.tuple #[sv x, sv y, .int .i64 z]) ∧ Below w.heap.size w w' := by
  have := RootsOf_any m n old proof a cap w (by omega) hA T
  rwa [h.out, hk] at this
theorem Consistency_at4 {m n : Int} {old now : List UInt8} {proof : List (List UInt8)} {z : Int} (h : Hid (conOf4 m n old now proof = z)) (a : Option Addr) (k cap : Nat) (w : World) (hk : proof.length = k) (hc : k ≤ 9223372036854775807) (hA : At w a proof) (T : Tabs w) :
    Calls Tryz.prog 36 #[.int .i64 m, .int .i64 n, sv old, sv now, .slice a k cap] w fun e w' => e = .returned (.int .i64 z) ∧ Below w.heap.size w w' := by
  have := Consistency_any m n old now proof a cap w (by omega) hA T
  rwa [h.out, hk] at this
theorem rRootsOf_at {m n : Int} {old : List UInt8} {proof : List (List UInt8)} {x y : List UInt8} {z : Int} (h : Hid (rootsOf4 m n old proof = ((x, y), z))) (a : Option Addr) (k cap : Nat) (w : World) (hk : proof.length = k) (hlc : k ≤ cap) (hc : cap ≤ 9223372036854775807) (hA : At w a proof) :
    Calls Tryz.prog 60 #[.int .i64 m, .int .i64 n, sv old, .slice a k cap] w fun e w' => e = .returned (.tuple #[sv x, sv y, .int .i64 z]) ∧ Below w.heap.size w w' := by
  have := rRootsOf_any m n old proof a cap w ⟨by omega, hc⟩ hA
  rwa [h.out, hk] at this
theorem rConsistency_at {m n : Int} {old now : List UInt8} {proof : List (List UInt8)} {z : Int} (h : Hid (conOf4 m n old now proof = z)) (a : Option Addr) (k cap : Nat) (w : World) (hk : proof.length = k) (hlc : k ≤ cap) (hc : cap ≤ 9223372036854775807) (hA : At w a proof) :
    Calls Tryz.prog 39 #[.int .i64 m, .int .i64 n, sv old, sv now, .slice a k cap] w fun e w' => e = .returned (.int .i64 z) ∧ Below w.heap.size w w' := by
  have := rConsistency_any m n old now proof a cap w ⟨by omega, hc⟩ hA
  rwa [h.out, hk] at this
end Go.Proofs.YthoekndjeclimaaGreatDoor

namespace Go.Proofs.YthoekndjeclimaaGreatDoor
open Go.RowKit
namespace Tree
theorem dn_in : ∀ (f b n fb fe : Nat) (s : Nat × Nat × Bool), s ∈ dn f b n fb fe → b ≤ s.1 ∧ s.1 < s.2.1 ∧ s.2.1 ≤ b + n
  | 0, _, _, _, _, s, h => by cases h
  | f + 1, b, n, fb, fe, s, h => by
    rw [dn] at h
    split at h
    · cases h
    · rename_i hn
      have s1 := sp_lt (n := n) (by omega)
      have s2 := sp_pos (n := n) (by omega)
      split at h
      · rcases List.mem_cons.1 h with rfl | h
        · exact ⟨Nat.le_refl _, by show b < b + sp n; omega, by show b + sp n ≤ b + n; omega⟩
        · have := dn_in f (b + sp n) (n - sp n) fb fe s h
          omega
      · rcases List.mem_cons.1 h with rfl | h
        · exact ⟨by show b ≤ b + sp n; omega, by show b + sp n < b + n; omega, Nat.le_refl _⟩
        · have := dn_in f b (sp n) fb fe s h
          omega
theorem con_dn {l : List T} {M j : Nat} (h1 : 1 ≤ M) (h2 : M < l.length) (hj : 2 ^ j ∣ M) (hj2 : ¬ 2 ^ (j + 1) ∣ M) :
    (dn l.length 0 l.length (M - 2 ^ j) M).reverse.map (·.2.2) = PD M l.length ∧ (dn l.length 0 l.length (M - 2 ^ j) M).reverse.map (fun s => root (seg l s.1 s.2.1)) = own l.length M l ∧ root (seg l (M - 2 ^ j) M) = stt l.length M l := by
  obtain ⟨r1, r2, r3⟩ := dn_PD l l.length 0 l.length M j (Nat.le_refl _) h1 h2 ⟨l.length, Nat.le_of_lt Nat.lt_two_pow_self, Nat.dvd_zero _⟩ (by rw [Nat.zero_add]; exact hj) (by rw [Nat.zero_add]; exact hj2) (by omega)
  have e : seg l 0 (0 + l.length) = l := by unfold seg; rw [Nat.zero_add, List.take_length]; rfl
  rw [e, Nat.zero_add] at r2 r3
  rw [Nat.zero_add] at r1
  exact ⟨by rw [List.map_reverse, r1, List.reverse_reverse], by rw [List.map_reverse, r2, List.reverse_reverse], r3⟩
theorem pow_one {i j M : Nat} (h : M = 2 ^ i) (hj : 2 ^ j ∣ M) (hj2 : ¬ 2 ^ (j + 1) ∣ M) : 2 ^ j = M := by
  rcases Nat.lt_trichotomy i j with e | e | e
  · rw [h] at hj
    have := Nat.le_of_dvd (Nat.two_pow_pos i) hj
    have := Nat.pow_lt_pow_right (a := 2) (by omega) e
    omega
  · rw [h, e]
  · exact absurd (by rw [h]; exact pow_mono e) hj2
theorem fl_k {M n j : Nat} (h1 : 1 ≤ M) (h2 : M < n) (h3 : M ≤ 4096) (hj : 2 ^ j ∣ M) (hj2 : ¬ 2 ^ (j + 1) ∣ M) : fl M n true = decide (2 ^ j ≠ M) := by
  rw [fl_pw h1 h2 h3]
  by_cases e : 2 ^ j = M
  · rw [(pw_iff h3).2 ⟨j, e.symm⟩]; simp [e]
  · have : pw M = false := by
      cases hp : pw M with
      | false => rfl
      | true =>
        obtain ⟨i, hi⟩ := (pw_iff h3).1 hp
        exact absurd (pow_one hi hj hj2) e
    rw [this]; simp [e]
end Tree
end Go.Proofs.YthoekndjeclimaaGreatDoor
