import Derived.Test.YtfddkmkibfmmgaaDoorCTL47
import Derived.Test.YtfddkmkibfmmgaaDoorCTL48
namespace Go.Proofs.YtfddkmkibfmmgaaDoor
open Go.RowKit
/-- the error of a tile -/
def tz (l : List (List UInt8)) : Int := if l = [] then 72 else 0
theorem RtP.open {w w' : World} {l : List (List UInt8)} {r : Ending} (h : RtP w l r w') : ∃ v, r = .returned (.tuple #[v, .int .i64 (tz l)]) ∧ Own w' w.heap.size v (svs l) ∧ Below w.heap.size w w' := by
  obtain ⟨hb, h⟩ := h
  unfold tz
  by_cases e : l = []
  · rw [if_pos e] at h ⊢
    subst e
    exact ⟨_, h, Own.nil _ _, hb⟩
  · rw [if_neg e] at h ⊢
    obtain ⟨v, h1, h2⟩ := h
    exact ⟨v, h1, h2, hb⟩
theorem Tw.fre {w0 w : World} {X : Nat} {ρ : Wb.Rol} {S : Wb.BS} {T : Bool → TS} (h : Tw w0 X ρ S T) {b2 : Nat} {x : Value} {L : List Value} (hx : Own w b2 x L) (hb : w0.heap.size ≤ b2) : Fre ρ T x := fun g hg => by
  have h1 := hx.ge g hg
  refine ⟨⟨?_, fun b => ⟨fun e => ?_, fun e => ?_⟩⟩, fun e => by have := (h.o g e).2.1; omega⟩
  · cases hr : ρ g with
    | none => rfl
    | some r => have := (h.bk.lt g r hr).2; omega
  · have := (h.t b).lt g e; omega
  · have := (h.r b).lt g e; omega
/-- of two lists that came out one behind the other, the second one is still free -/
theorem Fre.next {w : World} {ρ ρ' : Wb.Rol} {T : Bool → TS} {x y : Value} {L : List Value} {b2 : Nat} (h : Fre ρ T y) (hN : Wb.Nw w ρ x ρ') (hy : Own w b2 y L) (hd : ∀ g, x.ownBlock = some g → y.ownBlock ≠ some g) : Fre ρ' T y := fun g hg => by
  refine ⟨⟨?_, (h g hg).1.2⟩, (h g hg).2⟩
  cases hr : ρ' g with
  | none => rfl
  | some r =>
    rcases hN g r hr with (⟨r0, e⟩ | e) | e
    · rw [(h g hg).1.1] at e; cases e
    · exact absurd hg (hd g e)
    · have := hy.ltS g hg; omega
theorem tileO_256 {L : List (List UInt8)} {h : Nat} (h1 : 1 ≤ h) (h8 : h ≤ 8) (h20 : L.length ≤ 1048576) (l i : Int) : (tileO L h l i).length ≤ 256 := by
  by_cases hb : l < 0 ∨ 30 < l ∨ i < 0 ∨ 1048576 < i
  · rw [tileO_bad h20 hb]; simp
  · obtain ⟨l', rfl⟩ : ∃ l' : Nat, l = (l' : Int) := ⟨l.toNat, by omega⟩
    obtain ⟨i', rfl⟩ : ∃ i' : Nat, i = (i' : Int) := ⟨i.toNat, by omega⟩
    rw [tileO_nat h1]
    have := rp_len L h l' i' (2 ^ h)
    have : 2 ^ h ≤ 2 ^ 8 := Nat.pow_le_pow_right (by omega) h8
    omega
end Go.Proofs.YtfddkmkibfmmgaaDoor

namespace Go.Proofs.YtfddkmkibfmmgaaDoor
open Go.RowKit
set_option maxRecDepth 100000 in
set_option maxHeartbeats 4000000 in
theorem whashes_any {w : World} {X : Nat} {ρ : Wb.Rol} {S : Wb.BS} {T : Bool → TS} (h : Tw w X ρ S T) {m : Nat} (hc : Ct S m) (hm : m ≤ 230) (b : Bool) (lv iv : Int) (hi1 : -9223372036854775808 ≤ iv) (hi2 : iv ≤ 9223372036854775807) :
    Calls Tryd.prog 51 #[ptr X, .int .i64 (kN b : Int), .int .i64 lv, .int .i64 iv] w fun r w' => r = .returned (.bool true) ∧ ∃ ρ' S', Tw w' X ρ' S' T ∧ Ct S' (m + 2) ∧ S'.kp = S.kp ∧ Below X w w' := by
  have hX := h.lt
  obtain ⟨x, z, hx⟩ : ∃ x z, Hid (hashO (T b).L lv iv = (x, z)) := ⟨_, _, rfl⟩
  have i1 := tHash_any (h.t b) lv iv hx
  have i2 := fun w' (bb : Below w.heap.size w w') => rHash_any ((h.r b).below bb) lv iv hx
  have i3 := fun w' (bb : Below w.heap.size w w') => tTile7_any ((h.t b).below bb) lv iv hi1 hi2
  have i4 := fun w' (bb : Below w.heap.size w w') => (rTile7_any ((h.r b).below bb) lv iv).mono fun _ _ hh => RtP.open hh
  have i5 := fun w' (bb : Below w.heap.size w w') => (tTile7_any ((h.t b).below bb) lv iv hi1 hi2).mono fun _ _ hh => RtP.open hh
  have hlen := tileO_256 (h.t b).h1 (h.t b).h8 (h.t b).n20 lv iv
  have c0 := h.ct b
  have c1 := h.cx b
  have H := hid h
  have HC := hid hc
  unfold ptr at c0 c1 ⊢
  generalize tileO (T b).L (T b).h lv iv = O at *
  generalize (T b).q = q at *
  generalize (T b).y = y at *
  obtain ⟨n, hn⟩ : ∃ n, O.length = n := ⟨_, rfl⟩
  have SY := fun a1 a2 k1 k2 w' h1 h2 => same_yes O a1 a2 k1 k2 w' h1 h2 (by omega)
  rw [hn] at SY hlen
  rw [show sv x = Value.string ⟨x.toArray⟩ from rfl] at i1 i2
  clear h hx hc
  cases b
  · rw [show kN false = 0 from rfl] at *
    have C0 := hid (fun w' (bb : Below w.heap.size w w') => (bb.cell (p := ⟨X, 0, none⟩) hX).trans c0)
    have C1 := hid (fun w' (bb : Below w.heap.size w w') => (bb.cell (p := ⟨X, 2, none⟩) hX).trans (show w.cell? ⟨X, 2, none⟩ = some (.pointer (some ⟨y, 0, none⟩)) from c1))
    clear c1
    go_enter Tryd.func51, Tryd.ntmps51
    go_wp2_with (go_at_call 11; fail)
    refine i1.mono ?_
    rintro r w1 ⟨rfl, hw1⟩
    have d1 := C1.out _ hw1
    clear c0
    go_wp2_with (go_at_call 71; fail)
    refine (i2 w1 hw1).mono ?_
    rintro r w2 ⟨rfl, hw2'⟩
    have B2 := hid (hw1.trans (hw2'.mono hw1.size))
    have d2 := C0.out _ B2.out
    clear d1 i1 i2 hw1 hw2'
    go_wp2_with (go_at_call 13; fail)
    refine (i3 w2 B2.out).mono ?_
    rintro r w3 h3
    obtain ⟨v1, rfl, o1, b3⟩ := h3.open
    have B3 := hid (B2.out.trans (b3.mono B2.out.size))
    have d3 := C1.out _ B3.out
    obtain ⟨a1, k1, rfl⟩ := o1.shape
    rw [svs_length] at o1 ⊢
    have O1 := hid o1
    clear d2 h3 b3 o1
    generalize tz O = zt at *
    rw [hn] at O1 ⊢
    go_wp2_with (go_at_call 72; fail)
    refine (i4 w3 B3.out).mono ?_
    rintro r w4 h4
    obtain ⟨v2, rfl, o2, b4⟩ := h4
    have B4 := hid (B3.out.trans (b4.mono B3.out.size))
    have O1 := hid (O1.out.below b4 (Nat.le_refl _))
    obtain ⟨a2, k2, rfl⟩ := o2.shape
    rw [svs_length, hn] at o2 ⊢
    have O2 := hid o2
    clear d3 b4 o2
    have s1 := SY a1 a2 k1 k2 w4 O1.out.atS.2 O2.out.atS.2
    go_wp2_with (go_at_call 26; fail)
    refine s1.mono ?_
    rintro r w5 ⟨rfl, b5, _⟩
    have B5 := hid (B4.out.trans (b5.mono B4.out.size))
    have O1 := hid (O1.out.below b5 (Nat.le_refl _))
    have O2 := hid (O2.out.below b5 (Nat.le_refl _))
    have d5 := C0.out _ B5.out
    have L1 := hid (O1.out.ltS)
    clear s1 b5
    go_wp2_with (go_at_call 13; fail)
    refine (i5 w5 B5.out).mono ?_
    rintro r w6 h6
    obtain ⟨v3, rfl, o3, b6⟩ := h6
    have B6 := hid (B5.out.trans (b6.mono B5.out.size))
    have O1 := hid (O1.out.below b6 (Nat.le_refl _))
    have O2 := hid (O2.out.below b6 (Nat.le_refl _))
    obtain ⟨a3, k3, rfl⟩ := o3.shape
    rw [svs_length, hn] at o3 ⊢
    have O3 := hid o3
    have N13 := hid (show ∀ g, (Value.slice a1 n k1).ownBlock = some g → (Value.slice a3 n k3).ownBlock ≠ some g from fun g hg e => by have := o3.ge g e; have := L1.out g hg; omega)
    clear d5 b6 o3
    have s1 := SY a3 a2 k3 k2 w6 O3.out.atS.2 O2.out.atS.2
    go_wp2_with (go_at_call 26; fail)
    refine s1.mono ?_
    rintro r w7 ⟨rfl, b7, _⟩
    have B7 := hid (B6.out.trans (b7.mono B6.out.size))
    have O1 := O1.out.below b7 (Nat.le_refl _)
    have O3 := O3.out.below b7 (Nat.le_refl _)
    have T7 := H.out.below B7.out
    have F1 : Fre ρ T (Value.slice a1 n k1) := H.out.fre O1 B2.out.size
    have F3 : Fre ρ T (Value.slice a3 n k3) := H.out.fre O3 B5.out.size
    have W1 := wowned_any T7 HC.out (by omega) O1 (Nat.le_trans (Nat.le_of_lt hX) B2.out.size) (by omega) F1
    unfold ptr at W1
    have O3 := hid O3
    have F3 := hid F3
    clear s1 b7 T7 F1 O1 O2 C0 C1
    go_wp2_with (go_at_call 73; fail)
    refine W1.mono ?_
    rintro r w8 ⟨rfl, ρ8, S8, T8, C8, e8, K8, N8, D8⟩
    have F8 := F3.out.next N8 O3.out N13.out
    have O8 := O3.out.keep K8 (fun g hg e => by
      rcases e with ⟨r0, e⟩ | e
      · rw [(F3.out g hg).1.1] at e; cases e
      · exact N13.out g e hg)
    have W2 := wowned_any T8 C8 (by omega) O8 (Nat.le_trans (Nat.le_of_lt hX) B5.out.size) (by omega) F8
    unfold ptr at W2
    clear W1 O3 F3 N13 F8 O8 T8 C8
    go_wp2_with (go_at_call 73; fail)
    refine W2.mono ?_
    rintro r w9 ⟨rfl, ρ9, S9, T9, C9, e9, K9, N9, D9⟩
    have R9 := hid (show ∃ ρ' S', Tw w9 X ρ' S' T ∧ Ct S' (m + 2) ∧ S'.kp = S.kp ∧ Below X w w9 from ⟨ρ9, S9, T9, C9, e9.trans e8, (B7.out.mono (Nat.le_of_lt hX)).trans (D8.trans D9)⟩)
    clear W2 T9 C9 K9 N9 K8 N8 e8 e9 D8 D9
    go_wp2
    go_ret
    exact ⟨rfl, R9.out⟩
  · rw [show kN true = 1 from rfl] at *
    have C0 := hid (fun w' (bb : Below w.heap.size w w') => (bb.cell (p := ⟨X, 1, none⟩) hX).trans c0)
    have C1 := hid (fun w' (bb : Below w.heap.size w w') => (bb.cell (p := ⟨X, 3, none⟩) hX).trans (show w.cell? ⟨X, 3, none⟩ = some (.pointer (some ⟨y, 0, none⟩)) from c1))
    clear c1
    go_enter Tryd.func51, Tryd.ntmps51
    go_wp2_with (go_at_call 11; fail)
    refine i1.mono ?_
    rintro r w1 ⟨rfl, hw1⟩
    have d1 := C1.out _ hw1
    clear c0
    go_wp2_with (go_at_call 71; fail)
    refine (i2 w1 hw1).mono ?_
    rintro r w2 ⟨rfl, hw2'⟩
    have B2 := hid (hw1.trans (hw2'.mono hw1.size))
    have d2 := C0.out _ B2.out
    clear d1 i1 i2 hw1 hw2'
    go_wp2_with (go_at_call 13; fail)
    refine (i3 w2 B2.out).mono ?_
    rintro r w3 h3
    obtain ⟨v1, rfl, o1, b3⟩ := h3.open
    have B3 := hid (B2.out.trans (b3.mono B2.out.size))
    have d3 := C1.out _ B3.out
    obtain ⟨a1, k1, rfl⟩ := o1.shape
    rw [svs_length] at o1 ⊢
    have O1 := hid o1
    clear d2 h3 b3 o1
    generalize tz O = zt at *
    rw [hn] at O1 ⊢
    go_wp2_with (go_at_call 72; fail)
    refine (i4 w3 B3.out).mono ?_
    rintro r w4 h4
    obtain ⟨v2, rfl, o2, b4⟩ := h4
    have B4 := hid (B3.out.trans (b4.mono B3.out.size))
    have O1 := hid (O1.out.below b4 (Nat.le_refl _))
    obtain ⟨a2, k2, rfl⟩ := o2.shape
    rw [svs_length, hn] at o2 ⊢
    have O2 := hid o2
    clear d3 b4 o2
    have s1 := SY a1 a2 k1 k2 w4 O1.out.atS.2 O2.out.atS.2
    go_wp2_with (go_at_call 26; fail)
    refine s1.mono ?_
    rintro r w5 ⟨rfl, b5, _⟩
    have B5 := hid (B4.out.trans (b5.mono B4.out.size))
    have O1 := hid (O1.out.below b5 (Nat.le_refl _))
    have O2 := hid (O2.out.below b5 (Nat.le_refl _))
    have d5 := C0.out _ B5.out
    have L1 := hid (O1.out.ltS)
    clear s1 b5
    go_wp2_with (go_at_call 13; fail)
    refine (i5 w5 B5.out).mono ?_
    rintro r w6 h6
    obtain ⟨v3, rfl, o3, b6⟩ := h6
    have B6 := hid (B5.out.trans (b6.mono B5.out.size))
    have O1 := hid (O1.out.below b6 (Nat.le_refl _))
    have O2 := hid (O2.out.below b6 (Nat.le_refl _))
    obtain ⟨a3, k3, rfl⟩ := o3.shape
    rw [svs_length, hn] at o3 ⊢
    have O3 := hid o3
    have N13 := hid (show ∀ g, (Value.slice a1 n k1).ownBlock = some g → (Value.slice a3 n k3).ownBlock ≠ some g from fun g hg e => by have := o3.ge g e; have := L1.out g hg; omega)
    clear d5 b6 o3
    have s1 := SY a3 a2 k3 k2 w6 O3.out.atS.2 O2.out.atS.2
    go_wp2_with (go_at_call 26; fail)
    refine s1.mono ?_
    rintro r w7 ⟨rfl, b7, _⟩
    have B7 := hid (B6.out.trans (b7.mono B6.out.size))
    have O1 := O1.out.below b7 (Nat.le_refl _)
    have O3 := O3.out.below b7 (Nat.le_refl _)
    have T7 := H.out.below B7.out
    have F1 : Fre ρ T (Value.slice a1 n k1) := H.out.fre O1 B2.out.size
    have F3 : Fre ρ T (Value.slice a3 n k3) := H.out.fre O3 B5.out.size
    have W1 := wowned_any T7 HC.out (by omega) O1 (Nat.le_trans (Nat.le_of_lt hX) B2.out.size) (by omega) F1
    unfold ptr at W1
    have O3 := hid O3
    have F3 := hid F3
    clear s1 b7 T7 F1 O1 O2 C0 C1
    go_wp2_with (go_at_call 73; fail)
    refine W1.mono ?_
    rintro r w8 ⟨rfl, ρ8, S8, T8, C8, e8, K8, N8, D8⟩
    have F8 := F3.out.next N8 O3.out N13.out
    have O8 := O3.out.keep K8 (fun g hg e => by
      rcases e with ⟨r0, e⟩ | e
      · rw [(F3.out g hg).1.1] at e; cases e
      · exact N13.out g e hg)
    have W2 := wowned_any T8 C8 (by omega) O8 (Nat.le_trans (Nat.le_of_lt hX) B5.out.size) (by omega) F8
    unfold ptr at W2
    clear W1 O3 F3 N13 F8 O8 T8 C8
    go_wp2_with (go_at_call 73; fail)
    refine W2.mono ?_
    rintro r w9 ⟨rfl, ρ9, S9, T9, C9, e9, K9, N9, D9⟩
    have R9 := hid (show ∃ ρ' S', Tw w9 X ρ' S' T ∧ Ct S' (m + 2) ∧ S'.kp = S.kp ∧ Below X w w9 from ⟨ρ9, S9, T9, C9, e9.trans e8, (B7.out.mono (Nat.le_of_lt hX)).trans (D8.trans D9)⟩)
    clear W2 T9 C9 K9 N9 K8 N8 e8 e9 D8 D9
    go_wp2
    go_ret
    exact ⟨rfl, R9.out⟩
end Go.Proofs.YtfddkmkibfmmgaaDoor

namespace Go.Proofs.YtfddkmkibfmmgaaDoor
open Go.RowKit
/-- leaves, and the error -/
def lvO (L : List (List UInt8)) (b e : Int) : List (List UInt8) := if spB L.length b e = true then Til.sg L b.toNat e.toNat else []
def lz (n : Nat) (b e : Int) : Int := if spB n b e = true then 0 else 73
theorem LvP.open {w w' : World} {L : List (List UInt8)} {b e : Int} {r : Ending} (h : LvP w L b e r w') : ∃ v, r = .returned (.tuple #[v, .int .i64 (lz L.length b e)]) ∧ Own w' w.heap.size v (svs (lvO L b e)) ∧ Below w.heap.size w w' := by
  obtain ⟨hb, h⟩ := h
  unfold lz lvO
  by_cases c : spB L.length b e = true
  · rw [if_pos c] at h
    rw [if_pos c, if_pos c]
    obtain ⟨v, h1, h2⟩ := h
    exact ⟨v, h1, h2, hb⟩
  · rw [if_neg c] at h
    rw [if_neg c, if_neg c]
    exact ⟨_, h, Own.nil _ _, hb⟩
theorem lvO_len (L : List (List UInt8)) (b e : Int) : (lvO L b e).length ≤ L.length := by
  unfold lvO
  split
  · unfold Til.sg; rw [List.length_drop, List.length_take]; omega
  · simp
set_option maxRecDepth 100000 in
set_option maxHeartbeats 4000000 in
theorem wleaves_any {w : World} {X : Nat} {ρ : Wb.Rol} {S : Wb.BS} {T : Bool → TS} (h : Tw w X ρ S T) {m : Nat} (hc : Ct S m) (hm : m ≤ 230) (b : Bool) (s e : Int) :
    Calls Tryd.prog 54 #[ptr X, .int .i64 (kN b : Int), .agg #[.int .i64 s, .int .i64 e]] w fun r w' => r = .returned (.bool true) ∧ ∃ ρ' S', Tw w' X ρ' S' T ∧ Ct S' (m + 2) ∧ S'.kp = S.kp ∧ Below X w w' := by
  have hX := h.lt
  obtain ⟨w1, hw1⟩ : ∃ w1, w.alloc (.cells #[Value.int .i64 s, .int .i64 e] 47) = w1 := ⟨_, rfl⟩
  have b1 := (Below.refl w.heap.size w).alloc (Nat.le_refl _) (.cells #[Value.int .i64 s, .int .i64 e] 47)
  have r1 := heap_alloc_new w (.cells #[Value.int .i64 s, .int .i64 e] 47)
  rw [hw1] at b1 r1
  have s0 : w1.cell? ⟨w.heap.size, 0, none⟩ = some (.int .i64 s) := by rw [cell_of_row _ _ _ _ _ _ r1]; rfl
  have s1 : w1.cell? ⟨w.heap.size, 1, none⟩ = some (.int .i64 e) := by rw [cell_of_row _ _ _ _ _ _ r1]; rfl
  have hlt : w.heap.size < w1.heap.size := lt_of_heap r1
  have hX1 : X < w1.heap.size := Nat.lt_of_lt_of_le hX b1.size
  have i1 := fun w' (bb : Below w1.heap.size w1 w') => (tLeaves7_any (((h.t b).below b1).below bb) s e).mono fun _ _ hh => LvP.open hh
  have i2 := fun w' (bb : Below w1.heap.size w1 w') => (rLeaves7_any (((h.r b).below b1).below bb) s e).mono fun _ _ hh => LvP.open hh
  have hlen := Nat.le_trans (lvO_len (T b).L s e) (h.t b).n20
  have B1 := hid b1
  have c0 := h.ct b
  have c1 := h.cx b
  have H := hid h
  have HC := hid hc
  unfold ptr at c0 c1 ⊢
  generalize lvO (T b).L s e = O at *
  generalize lz (T b).L.length s e = zt at *
  generalize (T b).q = q at *
  generalize (T b).y = y at *
  obtain ⟨n, hn⟩ : ∃ n, O.length = n := ⟨_, rfl⟩
  have SY := fun a1 a2 k1 k2 w' h1 h2 => same_yes O a1 a2 k1 k2 w' h1 h2 (by omega)
  rw [hn] at SY hlen
  clear h hc r1 b1
  cases b
  · rw [show kN false = 0 from rfl] at *
    have C0 := hid (fun w' (bb : Below w1.heap.size w1 w') => s3k_below (w := w1) ⟨(B1.out.cell (p := ⟨X, 0, none⟩) hX).trans c0, s0, s1⟩ hX1 hlt bb)
    have C1 := hid (fun w' (bb : Below w1.heap.size w1 w') => s3k_below (w := w1) ⟨(B1.out.cell (p := ⟨X, 2, none⟩) hX).trans (show w.cell? ⟨X, 2, none⟩ = some (.pointer (some ⟨y, 0, none⟩)) from c1), s0, s1⟩ hX1 hlt bb)
    clear c1 c0 s0 s1
    have S0 := C0.out _ (Below.refl _ _)
    go_enter Tryd.func54, Tryd.ntmps54
    go_wp2
    go_region_held3 (fun w' => w'.cell? ⟨X, 0, none⟩ = some (.pointer (some ⟨q, 0, none⟩)) ∧ w'.cell? ⟨w.heap.size, 0, none⟩ = some (.int .i64 s) ∧ w'.cell? ⟨w.heap.size, 1, none⟩ = some (.int .i64 e)) (first | exact S0 | exact S2) ((go_at_call 25; (with_reducible refine (i1 w1.drew (Below.refl _ _).drew).mono ?_); rintro r w2 ⟨v1, rfl, o1, b2'⟩; obtain ⟨a1, k1, rfl⟩ := o1.shape; have b2 := hid (show Below w1.heap.size w1 w2 from (Below.refl _ _).drew.trans b2'); have S2 := C0.out _ b2.out))
    rw [svs_length, hn] at o1 ⊢
    have O1 := hid (show Own w2 w1.heap.size (.slice a1 n k1) (svs O) from o1)
    have S3 := C1.out _ b2.out
    clear S0 S2 b2' o1
    go_wp2
    go_region_held3 (fun w' => w'.cell? ⟨X, 2, none⟩ = some (.pointer (some ⟨y, 0, none⟩)) ∧ w'.cell? ⟨w.heap.size, 0, none⟩ = some (.int .i64 s) ∧ w'.cell? ⟨w.heap.size, 1, none⟩ = some (.int .i64 e)) (first | exact S3 | exact S4) ((go_at_call 76; (with_reducible refine (i2 w2.drew b2.out.drew).mono ?_); rintro r w4 ⟨v2, rfl, o2, b4'⟩; obtain ⟨a2, k2, rfl⟩ := o2.shape; have b4 := hid (show Below w2.heap.size w2 w4 from (Below.refl _ _).drew.trans b4'); have B4 := hid (b2.out.trans (b4.out.mono b2.out.size)); have S4 := C1.out _ B4.out))
    rw [svs_length, hn] at o2 ⊢
    have O1 := hid (O1.out.below b4.out (Nat.le_refl _))
    have O2 := hid (show Own w4 w2.heap.size (.slice a2 n k2) (svs O) from o2)
    clear S3 S4 b4' o2
    have s1 := SY a1 a2 k1 k2 w4 O1.out.atS.2 O2.out.atS.2
    go_wp2_with (go_at_call 26; fail)
    refine s1.mono ?_
    rintro r w5 ⟨rfl, b5, _⟩
    have B5 := hid (B4.out.trans (b5.mono B4.out.size))
    have O1 := hid (O1.out.below b5 (Nat.le_refl _))
    have O2 := hid (O2.out.below b5 (Nat.le_refl _))
    have S5 := C0.out _ B5.out
    have L1 := hid (O1.out.ltS)
    clear s1 b5
    go_wp2
    go_region_held3 (fun w' => w'.cell? ⟨X, 0, none⟩ = some (.pointer (some ⟨q, 0, none⟩)) ∧ w'.cell? ⟨w.heap.size, 0, none⟩ = some (.int .i64 s) ∧ w'.cell? ⟨w.heap.size, 1, none⟩ = some (.int .i64 e)) (first | exact S5 | exact S6) ((go_at_call 25; (with_reducible refine (i1 w5.drew B5.out.drew).mono ?_); rintro r w6 ⟨v3, rfl, o3, b6'⟩; obtain ⟨a3, k3, rfl⟩ := o3.shape; have b6 := hid (show Below w5.heap.size w5 w6 from (Below.refl _ _).drew.trans b6'); have B6 := hid (B5.out.trans (b6.out.mono B5.out.size)); have S6 := C0.out _ B6.out))
    rw [svs_length, hn] at o3 ⊢
    have O1 := hid (O1.out.below b6.out (Nat.le_refl _))
    have O2 := hid (O2.out.below b6.out (Nat.le_refl _))
    have O3 := hid (show Own w6 w5.heap.size (.slice a3 n k3) (svs O) from o3)
    have N13 := hid (show ∀ g, (Value.slice a1 n k1).ownBlock = some g → (Value.slice a3 n k3).ownBlock ≠ some g from fun g hg e => by have := O3.out.ge g e; have := L1.out g hg; omega)
    clear S5 S6 b6' o3
    have s1 := SY a3 a2 k3 k2 w6 O3.out.atS.2 O2.out.atS.2
    go_wp2_with (go_at_call 26; fail)
    refine s1.mono ?_
    rintro r w7 ⟨rfl, b7, _⟩
    have B7 := hid (B1.out.trans ((B6.out.trans (b7.mono B6.out.size)).mono B1.out.size))
    have O1 := O1.out.below b7 (Nat.le_refl _)
    have O3 := O3.out.below b7 (Nat.le_refl _)
    have z5 : w.heap.size ≤ w5.heap.size := Nat.le_trans B1.out.size B5.out.size
    have T7 := H.out.below B7.out
    have F1 : Fre ρ T (Value.slice a1 n k1) := H.out.fre O1 B1.out.size
    have F3 : Fre ρ T (Value.slice a3 n k3) := H.out.fre O3 z5
    have W1 := wowned_any T7 HC.out (by omega) O1 (Nat.le_of_lt hX1) (by omega) F1
    unfold ptr at W1
    have O3 := hid O3
    have F3 := hid F3
    clear s1 b7 T7 F1 O1 O2 C0 C1
    go_wp2_with (go_at_call 73; fail)
    refine W1.mono ?_
    rintro r w8 ⟨rfl, ρ8, S8, T8, C8, e8, K8, N8, D8⟩
    have F8 := F3.out.next N8 O3.out N13.out
    have O8 := O3.out.keep K8 (fun g hg e => by
      rcases e with ⟨r0, e⟩ | e
      · rw [(F3.out g hg).1.1] at e; cases e
      · exact N13.out g e hg)
    have W2 := wowned_any T8 C8 (by omega) O8 (Nat.le_trans (Nat.le_of_lt hX) z5) (by omega) F8
    unfold ptr at W2
    clear W1 O3 F3 N13 F8 O8 T8 C8
    go_wp2_with (go_at_call 73; fail)
    refine W2.mono ?_
    rintro r w9 ⟨rfl, ρ9, S9, T9, C9, e9, K9, N9, D9⟩
    have R9 := hid (show ∃ ρ' S', Tw w9 X ρ' S' T ∧ Ct S' (m + 2) ∧ S'.kp = S.kp ∧ Below X w w9 from ⟨ρ9, S9, T9, C9, e9.trans e8, (B7.out.mono (Nat.le_of_lt hX)).trans (D8.trans D9)⟩)
    clear W2 T9 C9 K9 N9 K8 N8 e8 e9 D8 D9
    go_wp2
    go_ret
    exact ⟨rfl, R9.out⟩
  · rw [show kN true = 1 from rfl] at *
    have C0 := hid (fun w' (bb : Below w1.heap.size w1 w') => s3k_below (w := w1) ⟨(B1.out.cell (p := ⟨X, 1, none⟩) hX).trans c0, s0, s1⟩ hX1 hlt bb)
    have C1 := hid (fun w' (bb : Below w1.heap.size w1 w') => s3k_below (w := w1) ⟨(B1.out.cell (p := ⟨X, 3, none⟩) hX).trans (show w.cell? ⟨X, 3, none⟩ = some (.pointer (some ⟨y, 0, none⟩)) from c1), s0, s1⟩ hX1 hlt bb)
    clear c1 c0 s0 s1
    have S0 := C0.out _ (Below.refl _ _)
    go_enter Tryd.func54, Tryd.ntmps54
    go_wp2
    go_region_held3 (fun w' => w'.cell? ⟨X, 1, none⟩ = some (.pointer (some ⟨q, 0, none⟩)) ∧ w'.cell? ⟨w.heap.size, 0, none⟩ = some (.int .i64 s) ∧ w'.cell? ⟨w.heap.size, 1, none⟩ = some (.int .i64 e)) (first | exact S0 | exact S2) ((go_at_call 25; (with_reducible refine (i1 w1.drew (Below.refl _ _).drew).mono ?_); rintro r w2 ⟨v1, rfl, o1, b2'⟩; obtain ⟨a1, k1, rfl⟩ := o1.shape; have b2 := hid (show Below w1.heap.size w1 w2 from (Below.refl _ _).drew.trans b2'); have S2 := C0.out _ b2.out))
    rw [svs_length, hn] at o1 ⊢
    have O1 := hid (show Own w2 w1.heap.size (.slice a1 n k1) (svs O) from o1)
    have S3 := C1.out _ b2.out
    clear S0 S2 b2' o1
    go_wp2
    go_region_held3 (fun w' => w'.cell? ⟨X, 3, none⟩ = some (.pointer (some ⟨y, 0, none⟩)) ∧ w'.cell? ⟨w.heap.size, 0, none⟩ = some (.int .i64 s) ∧ w'.cell? ⟨w.heap.size, 1, none⟩ = some (.int .i64 e)) (first | exact S3 | exact S4) ((go_at_call 76; (with_reducible refine (i2 w2.drew b2.out.drew).mono ?_); rintro r w4 ⟨v2, rfl, o2, b4'⟩; obtain ⟨a2, k2, rfl⟩ := o2.shape; have b4 := hid (show Below w2.heap.size w2 w4 from (Below.refl _ _).drew.trans b4'); have B4 := hid (b2.out.trans (b4.out.mono b2.out.size)); have S4 := C1.out _ B4.out))
    rw [svs_length, hn] at o2 ⊢
    have O1 := hid (O1.out.below b4.out (Nat.le_refl _))
    have O2 := hid (show Own w4 w2.heap.size (.slice a2 n k2) (svs O) from o2)
    clear S3 S4 b4' o2
    have s1 := SY a1 a2 k1 k2 w4 O1.out.atS.2 O2.out.atS.2
    go_wp2_with (go_at_call 26; fail)
    refine s1.mono ?_
    rintro r w5 ⟨rfl, b5, _⟩
    have B5 := hid (B4.out.trans (b5.mono B4.out.size))
    have O1 := hid (O1.out.below b5 (Nat.le_refl _))
    have O2 := hid (O2.out.below b5 (Nat.le_refl _))
    have S5 := C0.out _ B5.out
    have L1 := hid (O1.out.ltS)
    clear s1 b5
    go_wp2
    go_region_held3 (fun w' => w'.cell? ⟨X, 1, none⟩ = some (.pointer (some ⟨q, 0, none⟩)) ∧ w'.cell? ⟨w.heap.size, 0, none⟩ = some (.int .i64 s) ∧ w'.cell? ⟨w.heap.size, 1, none⟩ = some (.int .i64 e)) (first | exact S5 | exact S6) ((go_at_call 25; (with_reducible refine (i1 w5.drew B5.out.drew).mono ?_); rintro r w6 ⟨v3, rfl, o3, b6'⟩; obtain ⟨a3, k3, rfl⟩ := o3.shape; have b6 := hid (show Below w5.heap.size w5 w6 from (Below.refl _ _).drew.trans b6'); have B6 := hid (B5.out.trans (b6.out.mono B5.out.size)); have S6 := C0.out _ B6.out))
    rw [svs_length, hn] at o3 ⊢
    have O1 := hid (O1.out.below b6.out (Nat.le_refl _))
    have O2 := hid (O2.out.below b6.out (Nat.le_refl _))
    have O3 := hid (show Own w6 w5.heap.size (.slice a3 n k3) (svs O) from o3)
    have N13 := hid (show ∀ g, (Value.slice a1 n k1).ownBlock = some g → (Value.slice a3 n k3).ownBlock ≠ some g from fun g hg e => by have := O3.out.ge g e; have := L1.out g hg; omega)
    clear S5 S6 b6' o3
    have s1 := SY a3 a2 k3 k2 w6 O3.out.atS.2 O2.out.atS.2
    go_wp2_with (go_at_call 26; fail)
    refine s1.mono ?_
    rintro r w7 ⟨rfl, b7, _⟩
    have B7 := hid (B1.out.trans ((B6.out.trans (b7.mono B6.out.size)).mono B1.out.size))
    have O1 := O1.out.below b7 (Nat.le_refl _)
    have O3 := O3.out.below b7 (Nat.le_refl _)
    have z5 : w.heap.size ≤ w5.heap.size := Nat.le_trans B1.out.size B5.out.size
    have T7 := H.out.below B7.out
    have F1 : Fre ρ T (Value.slice a1 n k1) := H.out.fre O1 B1.out.size
    have F3 : Fre ρ T (Value.slice a3 n k3) := H.out.fre O3 z5
    have W1 := wowned_any T7 HC.out (by omega) O1 (Nat.le_of_lt hX1) (by omega) F1
    unfold ptr at W1
    have O3 := hid O3
    have F3 := hid F3
    clear s1 b7 T7 F1 O1 O2 C0 C1
    go_wp2_with (go_at_call 73; fail)
    refine W1.mono ?_
    rintro r w8 ⟨rfl, ρ8, S8, T8, C8, e8, K8, N8, D8⟩
    have F8 := F3.out.next N8 O3.out N13.out
    have O8 := O3.out.keep K8 (fun g hg e => by
      rcases e with ⟨r0, e⟩ | e
      · rw [(F3.out g hg).1.1] at e; cases e
      · exact N13.out g e hg)
    have W2 := wowned_any T8 C8 (by omega) O8 (Nat.le_trans (Nat.le_of_lt hX) z5) (by omega) F8
    unfold ptr at W2
    clear W1 O3 F3 N13 F8 O8 T8 C8
    go_wp2_with (go_at_call 73; fail)
    refine W2.mono ?_
    rintro r w9 ⟨rfl, ρ9, S9, T9, C9, e9, K9, N9, D9⟩
    have R9 := hid (show ∃ ρ' S', Tw w9 X ρ' S' T ∧ Ct S' (m + 2) ∧ S'.kp = S.kp ∧ Below X w w9 from ⟨ρ9, S9, T9, C9, e9.trans e8, (B7.out.mono (Nat.le_of_lt hX)).trans (D8.trans D9)⟩)
    clear W2 T9 C9 K9 N9 K8 N8 e8 e9 D8 D9
    go_wp2
    go_ret
    exact ⟨rfl, R9.out⟩
end Go.Proofs.YtfddkmkibfmmgaaDoor
