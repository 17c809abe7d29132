import Derived.Test.YtkamjpjmdibfgaaPkKP12
import Derived.Test.YtkamjpjmdibfgaaPkKP11
/- Layer 15, the program: Pin, Unpin, Drop -/
namespace Go.Proofs.Ytkamjpjmdibfgaa
open Go.RowKit Go.Maps
namespace Kc
set_option maxRecDepth 100000 in
set_option maxHeartbeats 2000000 in
theorem repin_none {w : World} {a : Nat} {g : Option Nat} {B c : Nat} {L : List En} {f m o : Nat} (h : Ch w a g B c L f m o) (k : List UInt8) (hk : k.length ≤ 9223372036854775807) (hf : fnd k L = none) (by_ : Int) :
    Calls Try.prog 43 #[.pointer (some ⟨a, 0, none⟩), .string ⟨k.toArray⟩, .int .i64 by_] w fun r w' => r = .returned (.int .i64 152) ∧ w' = w := by
  have i1 := find_any h.li.cs.2.2.2.1 h.tb k hk
  rw [hf] at i1
  simp only [Option.map_none, Option.isSome_none, pv] at i1
  clear h hf hk
  generalize (ByteArray.mk k.toArray) = K at *
  go_enter Try.func43, Try.ntmps43
  go_wp2_with (go_at_call 31; refine i1.mono ?_; rintro r w9 ⟨rfl, hw9⟩; replace hw9 := hw9.symm; subst hw9)
  go_ret
  exact ⟨rfl, rfl⟩
set_option maxRecDepth 100000 in
set_option maxHeartbeats 2000000 in
theorem repin_bad {w : World} {a : Nat} {g : Option Nat} {B c : Nat} {L : List En} {f m o : Nat} (h : Ch w a g B c L f m o) (k : List UInt8) (hk : k.length ≤ 9223372036854775807) {e : En} (hf : fnd k L = some e) (by_ : Int) (z : Int) (hz : (e.p : Int) + by_ = z) (hb : z < 0 ∨ 65535 < z) (h1 : -10 ≤ z) (h2 : z ≤ 100000) :
    Calls Try.prog 43 #[.pointer (some ⟨a, 0, none⟩), .string ⟨k.toArray⟩, .int .i64 by_] w fun r w' => r = .returned (.int .i64 153) ∧ w' = w := by
  have i1 := find_any h.li.cs.2.2.2.1 h.tb k hk
  rw [hf] at i1
  simp only [Option.map_some, Option.isSome_some, pv] at i1
  obtain ⟨X, Y, rfl, hek, _, _, _⟩ := fnd_split hf
  obtain ⟨_, _, p2, _, _⟩ := pl_c (show pl w e (ls none X) (hd Y none) from (seg_append.1 h.li.seg).2.1)
  have e0 : IntKind.i64.wrap ((e.p : Int) + by_) = z := by rw [hz, IntKind.wrap_i64]; omega
  clear h hf hk hek hz
  generalize (ByteArray.mk k.toArray) = K at *
  generalize e.b = eb at *
  generalize (e.p : Int) = ep at *
  go_enter Try.func43, Try.ntmps43
  by_cases hn : z < 0
  · go_wp2_with (go_at_call 31; refine i1.mono ?_; rintro r w9 ⟨rfl, hw9⟩; replace hw9 := hw9.symm; subst hw9)
    go_ret
    exact ⟨rfl, rfl⟩
  · have hm : 65535 < z := by omega
    clear hb
    go_wp2_with (go_at_call 31; refine i1.mono ?_; rintro r w9 ⟨rfl, hw9⟩; replace hw9 := hw9.symm; subst hw9)
    go_ret
    exact ⟨rfl, rfl⟩
theorem rp_split {k : List UInt8} {L : List En} {e : En} (hf : fnd k L = some e) (q : Nat) : ∃ X Y, L = X ++ e :: Y ∧ e.k = k ∧ rp k q L = X ++ re e q :: Y := by
  obtain ⟨X, Y, h1, h2, _, h4, _⟩ := fnd_split hf
  exact ⟨X, Y, h1, h2, h4 q⟩
theorem rp_blocks (k : List UInt8) (q : Nat) (L : List En) : (rp k q L).map En.b = L.map En.b := by
  induction L with
  | nil => rfl
  | cons e r ih =>
    unfold rp
    split
    · rfl
    · simp [ih]
theorem Pq.op {w w' : World} {a : Nat} {g : Option Nat} {B c : Nat} {X Y : List En} {e : En} {f m o q : Nat} (h : Pq w a g B c X Y e f m o q w') : Op w a g B c (X ++ e :: Y) w' g (X ++ re e q :: Y) f m o :=
  ⟨h.1.mono (Nat.le_succ c), h.2, fun k hk => .inl (by
    unfold Fg Fp at *
    rw [List.map_append, List.map_cons] at *
    exact hk)⟩
set_option maxRecDepth 100000 in
set_option maxHeartbeats 2000000 in
theorem pin_none {w : World} {a : Nat} {g : Option Nat} {B c : Nat} {L : List En} {f m o : Nat} (h : Ch w a g B c L f m o) (k : List UInt8) (hk : k.length ≤ 9223372036854775807) (hf : fnd k L = none) :
    Calls Try.prog 17 #[.pointer (some ⟨a, 0, none⟩), .string ⟨k.toArray⟩] w fun r w' => r = .returned (.int .i64 152) ∧ w' = w := by
  have i1 := repin_none h k hk hf 1
  clear h hf
  generalize (ByteArray.mk k.toArray) = K at *
  go_enter Try.func17, Try.ntmps17
  go_wp2_with (first
    | (go_at_call 30; refine (orNone_some _ _).mono ?_; rintro r w9 ⟨rfl, hw9⟩; replace hw9 := hw9.symm; subst hw9)
    | (go_at_call 43; refine i1.mono ?_; rintro r w1 ⟨rfl, hw1⟩; replace hw1 := hw1.symm; subst hw1))
  go_ret
  exact ⟨rfl, rfl⟩
set_option maxRecDepth 100000 in
set_option maxHeartbeats 2000000 in
theorem pin_bad {w : World} {a : Nat} {g : Option Nat} {B c : Nat} {L : List En} {f m o : Nat} (h : Ch w a g B c L f m o) (k : List UInt8) (hk : k.length ≤ 9223372036854775807) {e : En} (hf : fnd k L = some e) (hp : e.p = 65535) :
    Calls Try.prog 17 #[.pointer (some ⟨a, 0, none⟩), .string ⟨k.toArray⟩] w fun r w' => r = .returned (.int .i64 153) ∧ w' = w := by
  have i1 := repin_bad h k hk hf 1 ((e.p : Int) + 1) rfl (by omega) (by omega) (by omega)
  clear h hf
  generalize (ByteArray.mk k.toArray) = K at *
  go_enter Try.func17, Try.ntmps17
  go_wp2_with (first
    | (go_at_call 30; refine (orNone_some _ _).mono ?_; rintro r w9 ⟨rfl, hw9⟩; replace hw9 := hw9.symm; subst hw9)
    | (go_at_call 43; refine i1.mono ?_; rintro r w1 ⟨rfl, hw1⟩; replace hw1 := hw1.symm; subst hw1))
  go_ret
  exact ⟨rfl, rfl⟩
set_option maxRecDepth 100000 in
set_option maxHeartbeats 2000000 in
theorem pin_ok {w : World} {a : Nat} {g : Option Nat} {B c : Nat} {L : List En} {f m o : Nat} (h : Ch w a g B c L f m o) (k : List UInt8) {e : En} (hf : fnd k L = some e) (hp : e.p < 65535) :
    Calls Try.prog 17 #[.pointer (some ⟨a, 0, none⟩), .string ⟨k.toArray⟩] w fun r w' => r = .returned (.int .i64 0) ∧ Op w a g B c L w' g (rp k (e.p + 1) L) f m o := by
  have hpm := h.pm e (fnd_mem hf).1
  obtain ⟨X, Y, hL, hk, hr⟩ := rp_split hf (e.p + 1)
  rw [hr]
  subst hL hk
  have i1 := repin_ok h 1 (e.p + 1) (by omega) (by omega)
  clear h hf hr
  generalize (ByteArray.mk e.k.toArray) = K at *
  go_enter Try.func17, Try.ntmps17
  go_wp2_with (first
    | (go_at_call 30; refine (orNone_some _ _).mono ?_; rintro r w9 ⟨rfl, hw9⟩; replace hw9 := hw9.symm; subst hw9)
    | (go_at_call 43; refine i1.mono ?_; rintro r w1 ⟨rfl, P1⟩; have P1 := hid P1))
  go_ret
  exact ⟨rfl, P1.out.op⟩
set_option maxRecDepth 100000 in
set_option maxHeartbeats 2000000 in
theorem unpin_none {w : World} {a : Nat} {g : Option Nat} {B c : Nat} {L : List En} {f m o : Nat} (h : Ch w a g B c L f m o) (k : List UInt8) (hk : k.length ≤ 9223372036854775807) (hf : fnd k L = none) :
    Calls Try.prog 19 #[.pointer (some ⟨a, 0, none⟩), .string ⟨k.toArray⟩] w fun r w' => r = .returned (.int .i64 152) ∧ w' = w := by
  have i1 := repin_none h k hk hf (-1)
  clear h hf
  generalize (ByteArray.mk k.toArray) = K at *
  go_enter Try.func19, Try.ntmps19
  go_wp2_with (first
    | (go_at_call 30; refine (orNone_some _ _).mono ?_; rintro r w9 ⟨rfl, hw9⟩; replace hw9 := hw9.symm; subst hw9)
    | (go_at_call 43; refine i1.mono ?_; rintro r w1 ⟨rfl, hw1⟩; replace hw1 := hw1.symm; subst hw1))
  go_ret
  exact ⟨rfl, rfl⟩
set_option maxRecDepth 100000 in
set_option maxHeartbeats 2000000 in
theorem unpin_bad {w : World} {a : Nat} {g : Option Nat} {B c : Nat} {L : List En} {f m o : Nat} (h : Ch w a g B c L f m o) (k : List UInt8) (hk : k.length ≤ 9223372036854775807) {e : En} (hf : fnd k L = some e) (hp : e.p = 0) :
    Calls Try.prog 19 #[.pointer (some ⟨a, 0, none⟩), .string ⟨k.toArray⟩] w fun r w' => r = .returned (.int .i64 153) ∧ w' = w := by
  have i1 := repin_bad h k hk hf (-1) ((e.p : Int) + (-1)) rfl (by omega) (by omega) (by omega)
  clear h hf
  generalize (ByteArray.mk k.toArray) = K at *
  go_enter Try.func19, Try.ntmps19
  go_wp2_with (first
    | (go_at_call 30; refine (orNone_some _ _).mono ?_; rintro r w9 ⟨rfl, hw9⟩; replace hw9 := hw9.symm; subst hw9)
    | (go_at_call 43; refine i1.mono ?_; rintro r w1 ⟨rfl, hw1⟩; replace hw1 := hw1.symm; subst hw1))
  go_ret
  exact ⟨rfl, rfl⟩
set_option maxRecDepth 100000 in
set_option maxHeartbeats 2000000 in
theorem unpin_ok {w : World} {a : Nat} {g : Option Nat} {B c : Nat} {L : List En} {f m o : Nat} (h : Ch w a g B c L f m o) (k : List UInt8) {e : En} (hf : fnd k L = some e) (hp : 0 < e.p) :
    Calls Try.prog 19 #[.pointer (some ⟨a, 0, none⟩), .string ⟨k.toArray⟩] w fun r w' => r = .returned (.int .i64 0) ∧ Op w a g B c L w' g (rp k (e.p - 1) L) f m o := by
  have hpm := h.pm e (fnd_mem hf).1
  obtain ⟨X, Y, hL, hk, hr⟩ := rp_split hf (e.p - 1)
  rw [hr]
  subst hL hk
  have i1 := repin_ok h (-1) (e.p - 1) (by omega) (by omega)
  clear h hf hr
  generalize (ByteArray.mk e.k.toArray) = K at *
  go_enter Try.func19, Try.ntmps19
  go_wp2_with (first
    | (go_at_call 30; refine (orNone_some _ _).mono ?_; rintro r w9 ⟨rfl, hw9⟩; replace hw9 := hw9.symm; subst hw9)
    | (go_at_call 43; refine i1.mono ?_; rintro r w1 ⟨rfl, P1⟩; have P1 := hid P1))
  go_ret
  exact ⟨rfl, P1.out.op⟩
set_option maxRecDepth 100000 in
set_option maxHeartbeats 2000000 in
theorem drop_none {w : World} {a : Nat} {g : Option Nat} {B c : Nat} {L : List En} {f m o : Nat} (h : Ch w a g B c L f m o) (k : List UInt8) (hk : k.length ≤ 9223372036854775807) (hf : fnd k L = none) :
    Calls Try.prog 15 #[.pointer (some ⟨a, 0, none⟩), .string ⟨k.toArray⟩] w fun r w' => r = .returned (.int .i64 152) ∧ w' = w := by
  have i1 := find_any h.li.cs.2.2.2.1 h.tb k hk
  rw [hf] at i1
  simp only [Option.map_none, Option.isSome_none, pv] at i1
  clear h hf hk
  generalize (ByteArray.mk k.toArray) = K at *
  go_enter Try.func15, Try.ntmps15
  go_wp2_with (first
    | (go_at_call 30; refine (orNone_some _ _).mono ?_; rintro r w9 ⟨rfl, hw9⟩; replace hw9 := hw9.symm; subst hw9)
    | (go_at_call 31; refine i1.mono ?_; rintro r w9 ⟨rfl, hw9⟩; replace hw9 := hw9.symm; subst hw9))
  go_ret
  exact ⟨rfl, rfl⟩
set_option maxRecDepth 100000 in
set_option maxHeartbeats 2000000 in
theorem drop_bad {w : World} {a : Nat} {g : Option Nat} {B c : Nat} {L : List En} {f m o : Nat} (h : Ch w a g B c L f m o) (k : List UInt8) (hk : k.length ≤ 9223372036854775807) {e : En} (hf : fnd k L = some e) (hp : 0 < e.p) :
    Calls Try.prog 15 #[.pointer (some ⟨a, 0, none⟩), .string ⟨k.toArray⟩] w fun r w' => r = .returned (.int .i64 153) ∧ w' = w := by
  have i1 := find_any h.li.cs.2.2.2.1 h.tb k hk
  rw [hf] at i1
  simp only [Option.map_some, Option.isSome_some, pv] at i1
  obtain ⟨X, Y, rfl, hek, _, _, _⟩ := fnd_split hf
  obtain ⟨_, _, p2, _, _⟩ := pl_c (show pl w e (ls none X) (hd Y none) from (seg_append.1 h.li.seg).2.1)
  have hp1 : 0 < (e.p : Int) := by omega
  clear h hf hk hek hp
  generalize (ByteArray.mk k.toArray) = K at *
  generalize e.b = eb at *
  generalize (e.p : Int) = ep at *
  go_enter Try.func15, Try.ntmps15
  go_wp2_with (first
    | (go_at_call 30; refine (orNone_some _ _).mono ?_; rintro r w9 ⟨rfl, hw9⟩; replace hw9 := hw9.symm; subst hw9)
    | (go_at_call 31; refine i1.mono ?_; rintro r w9 ⟨rfl, hw9⟩; replace hw9 := hw9.symm; subst hw9))
  go_ret
  exact ⟨rfl, rfl⟩
set_option maxRecDepth 100000 in
set_option maxHeartbeats 2000000 in
theorem drop_ok {w : World} {a : Nat} {g : Option Nat} {B c : Nat} {L : List En} {f m o : Nat} (h : Ch w a g B c L f m o) (hc : c ≤ 1000000000000) (k : List UInt8) {e : En} (hf : fnd k L = some e) (hp : e.p = 0) :
    Calls Try.prog 15 #[.pointer (some ⟨a, 0, none⟩), .string ⟨k.toArray⟩] w fun r w' => r = .returned (.int .i64 0) ∧ Op w a g B c L w' g (wo k L) f m o := by
  have hkl : k.length ≤ 9223372036854775807 := by
    obtain ⟨h1, h2⟩ := fnd_mem hf
    obtain ⟨X, Y, hL⟩ := List.append_of_mem h1
    have := h.tt
    have := h.bu
    rw [hL] at *
    simp [En.n] at *
    rw [← h2]
    omega
  have i1 := find_any h.li.cs.2.2.2.1 h.tb k hkl
  rw [hf] at i1
  simp only [Option.map_some, Option.isSome_some, pv] at i1
  obtain ⟨X, Y, rfl, hek, hwo, _, _⟩ := fnd_split hf
  rw [hwo]
  obtain ⟨_, _, p2, _, _⟩ := pl_c (show pl w e (ls none X) (hd Y none) from (seg_append.1 h.li.seg).2.1)
  have i2 := leave_any h hc
  have hp1 : (e.p : Int) = 0 := by omega
  have hp2 : ¬ 0 < (e.p : Int) := by omega
  rw [hp1] at p2
  clear h hf hkl hek hp hwo hp1 hp2
  generalize (ByteArray.mk k.toArray) = K at *
  generalize hEB : e.b = eb at *
  have HEB := hid hEB
  clear hEB
  go_enter Try.func15, Try.ntmps15
  go_wp2_with (first
    | (go_at_call 30; refine (orNone_some _ _).mono ?_; rintro r w9 ⟨rfl, hw9⟩; replace hw9 := hw9.symm; subst hw9)
    | (go_at_call 31; refine i1.mono ?_; rintro r w9 ⟨rfl, hw9⟩; replace hw9 := hw9.symm; subst hw9)
    | (go_at_call 34; refine i2.mono ?_; rintro r w2 ⟨rfl, C2, K2⟩; have C2 := hid C2; have K2 := hid K2))
  go_ret
  exact ⟨rfl, C2.out.mono (Nat.le_succ c), K2.out, fun k hk => .inl (fg_sub (List.Sublist.append_left (List.sublist_cons_self _ _) _) hk)⟩
end Kc
end Go.Proofs.Ytkamjpjmdibfgaa
