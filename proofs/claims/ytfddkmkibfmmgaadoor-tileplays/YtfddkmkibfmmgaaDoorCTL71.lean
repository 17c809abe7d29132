import Derived.Test.YtfddkmkibfmmgaaDoorCTL59
namespace Go.Proofs.YtfddkmkibfmmgaaDoor
open Go.RowKit
/-- a block besides is looked after, as if a tree had left it behind -/
def wO (T : Bool → TS) (g : Nat) (b : Option Obj) : Bool → TS
  | false => { T false with O := fun k => (T false).O k ∨ k = g, C := fun k => if k = g then b else (T false).C k }
  | true => T true
theorem Tw.guard {w : World} {X : Nat} {ρ : Wb.Rol} {S : Wb.BS} {T : Bool → TS} (h : Tw w X ρ S T) {g : Nat} (hg : g < w.heap.size) (hr : ρ g = none) (hn : NoT T g) : Tw w X ρ S (wO T g w.heap[g]?) := by
  have e : ∀ c, (wO T g w.heap[g]? c).F = (T c).F ∧ (wO T g w.heap[g]? c).G = (T c).G := fun c => by cases c <;> exact ⟨rfl, rfl⟩
  refine ⟨h.bk, h.p0, h.p1, h.x0, h.x1, fun c => ?_, fun c => ?_, fun c k hk => h.fr c k (by rw [← (e c).1]; exact hk), fun c k hk => h.gr c k (by rw [← (e c).2]; exact hk), fun c d k hk hd => h.fg c d k (by rw [← (e c).1]; exact hk) (by rw [← (e d).2]; exact hd), fun c d k hcd hk hd => h.ff c d k hcd (by rw [← (e c).1]; exact hk) (by rw [← (e d).1]; exact hd), fun c d k hcd hk hd => h.gg c d k hcd (by rw [← (e c).2]; exact hk) (by rw [← (e d).2]; exact hd), fun k hk => ?_⟩
  · cases c <;> exact h.t _
  · cases c <;> exact h.r _
  · have hC : (wO T g w.heap[g]? false).C k = if k = g then w.heap[g]? else (T false).C k := rfl
    rw [hC]
    rcases (show (T false).O k ∨ k = g from hk) with hk | rfl
    · obtain ⟨o1, o2, o3, o4⟩ := h.o k hk
      refine ⟨o1, o2, ?_, fun c => by rw [(e c).1, (e c).2]; exact o4 c⟩
      split
      · rename_i e'; rw [e']
      · exact o3
    · exact ⟨hr, hg, by rw [if_pos rfl], fun c => by rw [(e c).1, (e c).2]; exact hn c⟩
theorem Tw.unguard {w w' : World} {X : Nat} {ρ ρ' : Wb.Rol} {S S' : Wb.BS} {T : Bool → TS} (h0 : Tw w X ρ S T) {g : Nat} (h : Tw w' X ρ' S' (wO T g w.heap[g]?)) : Tw w' X ρ' S' T ∧ w'.heap[g]? = w.heap[g]? := by
  have e : ∀ c, (wO T g w.heap[g]? c).F = (T c).F ∧ (wO T g w.heap[g]? c).G = (T c).G := fun c => by cases c <;> exact ⟨rfl, rfl⟩
  have hC : ∀ k, (wO T g w.heap[g]? false).C k = if k = g then w.heap[g]? else (T false).C k := fun _ => rfl
  refine ⟨⟨h.bk, h.p0, h.p1, h.x0, h.x1, fun c => ?_, fun c => ?_, fun c k hk => h.fr c k (by rw [(e c).1]; exact hk), fun c k hk => h.gr c k (by rw [(e c).2]; exact hk), fun c d k hk hd => h.fg c d k (by rw [(e c).1]; exact hk) (by rw [(e d).2]; exact hd), fun c d k hcd hk hd => h.ff c d k hcd (by rw [(e c).1]; exact hk) (by rw [(e d).1]; exact hd), fun c d k hcd hk hd => h.gg c d k hcd (by rw [(e c).2]; exact hk) (by rw [(e d).2]; exact hd), fun k hk => ?_⟩, ?_⟩
  · cases c
    · exact h.t false
    · exact h.t true
  · cases c
    · exact h.r false
    · exact h.r true
  · obtain ⟨o1, o2, o3, o4⟩ := h.o k (Or.inl hk)
    rw [hC] at o3
    refine ⟨o1, o2, ?_, fun c => by rw [← (e c).1, ← (e c).2]; exact o4 c⟩
    split at o3
    · rename_i e'; subst e'; rw [o3]; exact (h0.o k hk).2.2.1
    · exact o3
  · have := (h.o g (Or.inr rfl)).2.2.1
    rw [hC, if_pos rfl] at this
    exact this
theorem whashes_keep {w : World} {X : Nat} {ρ : Wb.Rol} {S : Wb.BS} {T : Bool → TS} (h : Tw w X ρ S T) {m : Nat} (hc : Ct S m) (hm : m ≤ 230) (b : Bool) (lv iv : Int) (hi1 : -9223372036854775808 ≤ iv) (hi2 : iv ≤ 9223372036854775807) {g : Nat} (hg : g < w.heap.size) (hr : ρ g = none) (hn : NoT T g) :
    Calls Tryd.prog 51 #[ptr X, .int .i64 (kN b : Int), .int .i64 lv, .int .i64 iv] w fun r w' => r = .returned (.bool true) ∧ Hid (∃ ρ' S', Tw w' X ρ' S' T ∧ Ct S' (m + 2) ∧ S'.kp = S.kp ∧ Below X w w') ∧ w'.heap[g]? = w.heap[g]? := by
  refine (whashes_any (h.guard hg hr hn) hc hm b lv iv hi1 hi2).mono ?_
  rintro r w' ⟨rfl, ρ', S', a1, a2, a3, a4⟩
  obtain ⟨c1, c2⟩ := h.unguard a1
  exact ⟨rfl, ⟨ρ', S', c1, a2, a3, a4⟩, c2⟩
end Go.Proofs.YtfddkmkibfmmgaaDoor

namespace Go.Proofs.YtfddkmkibfmmgaaDoor
open Go.RowKit
set_option maxRecDepth 100000 in
set_option maxHeartbeats 4000000 in
theorem play_whole {w : World} {X : Nat} {ρ : Wb.Rol} {S : Wb.BS} {T : Bool → TS} (h : Tw w X ρ S T) {m N : Nat} (hc : Ct S m) (hm : m ≤ 230) (oth kpt : Bool) (n mm : Int) (hn1 : -9223372036854775808 ≤ n ∧ n ≤ 9223372036854775807) (hm1 : -9223372036854775808 ≤ mm ∧ mm ≤ 9223372036854775807) (s : List UInt8) (Z : Tb w) (hX4 : 4 ≤ X) (hN : ∀ c, (T c).L.length ≤ N) (hN2 : N ≤ 100000) :
    Calls Tryd.prog 30 #[ptr X, .agg #[.bool oth, .bool kpt, .int .i64 14, .int .i64 n, .int .i64 mm, .string ⟨s.toArray⟩]] w fun r w' => r = .returned (.bool true) ∧ PlP w X m N T w' := by
  have _u := And.intro hm (And.intro hn1 (And.intro hm1 hN2))
  unfold ptr
  cases oth
  · obtain ⟨w1, w2, hw1, hw2, y1, y7, f7, HT⟩ := play_start h false kpt 14 n mm s
    have R2 := HT.out.2.1
    unfold OpC at R2
    have e0 : w2.cell? ⟨w.heap.size, 0, none⟩ = some (.bool false) := by rw [cell_of_row _ _ _ _ _ _ R2]; rfl
    have e2 : w2.cell? ⟨w.heap.size, 2, none⟩ = some (.int .i64 14) := by rw [cell_of_row _ _ _ _ _ _ R2]; rfl
    have e3 : w2.cell? ⟨w.heap.size, 3, none⟩ = some (.int .i64 n) := by rw [cell_of_row _ _ _ _ _ _ R2]; rfl
    have e4 : w2.cell? ⟨w.heap.size, 4, none⟩ = some (.int .i64 mm) := by rw [cell_of_row _ _ _ _ _ _ R2]; rfl
    have e5 : w2.cell? ⟨w.heap.size, 5, none⟩ = some (.string ⟨s.toArray⟩) := by rw [cell_of_row _ _ _ _ _ _ R2]; rfl
    have i0 := rSizeL (HT.out.1.r false)
    have cx : w2.cell? ⟨X, 2, none⟩ = some (.pointer (some ⟨(T false).y, 0, none⟩)) := HT.out.1.cx false
    have ct : w2.cell? ⟨X, 0, none⟩ = some (.pointer (some ⟨(T false).q, 0, none⟩)) := HT.out.1.ct false
    have Z2 : Tb w2 := Z.below HT.out.2.2.1 hX4
    have lb := hN false
    have nX := HT.out.1.noX
    have nG : NoT T w.heap.size := h.noG (Nat.le_refl _)
    have hX2 := HT.out.1.lt
    have hg2 : w.heap.size < w2.heap.size := HT.out.2.2.2
    have CX := HT.out.1.cx false
    have dr : Below w2.heap.size w2 w2.drew := (Below.refl _ _).drew
    have hc2 : Ct { S with kp := kpt } m := ⟨hc.a, hc.e, hc.o, hc.tx⟩
    have fin : Hid (∀ w', (∃ ρ' S', Tw w' X ρ' S' T ∧ Ct S' (m + 2) ∧ S'.kp = kpt ∧ Below X w2.drew w') → PlP w X m N T w') := fun w' ⟨ρ', S', q1, q2, _, q4⟩ => PlP.of h q1 q2 (HT.out.2.2.1.drew.trans q4) hN
    have p0 := pk_nonneg n 7 (by omega)
    have p7 := pk_lt n 7 (by omega)
    have ip := pick_any n 7 hn1.1 hn1.2 (by omega) (by omega) w2
    obtain ⟨lv, hlv⟩ : ∃ lv : Nat, pk n 7 = (lv : Int) := ⟨(pk n 7).toNat, by omega⟩
    rw [hlv] at ip
    obtain ⟨qv, hqv, hqs⟩ : ∃ qv : Nat, (((T false).L.length : Int) / 2 ^ lv) = (qv : Int) ∧ qv ≤ (T false).L.length := ⟨(T false).L.length / 2 ^ lv, by simp, Nat.div_le_self _ _⟩
    have ip2 := pick_any mm (1 + (qv : Int)) hm1.1 hm1.2 (by omega) (by omega) w2.drew
    have sw : IntKind.i64.wrap (1 + (qv : Int)) = 1 + (qv : Int) := wrap_small _ (by omega) (by omega)
    have z0 := pk_nonneg mm (1 + (qv : Int)) (by omega)
    have z1 := pk_lt mm (1 + (qv : Int)) (by omega)
    have c0 : (0 : Int) ≤ (lv : Int) := by omega
    have c1 : (0 : Int) ≤ (qv : Int) := by omega
    have c2 : (lv : Int) ≤ 64 := by omega
    generalize pk mm (1 + (qv : Int)) = pp at *
    have i1 := whashes_keep (HT.out.1.below dr) hc2 hm false (lv : Int) pp (by omega) (by omega) (g := w.heap.size) hg2 (by cases hr : ρ w.heap.size with | none => rfl | some r => have := (h.bk.lt _ r hr).2; omega) nG
    have K4 : Hid (∀ w4 : World, w4.heap[w.heap.size]? = w2.drew.heap[w.heap.size]? → w4.cell? ⟨w.heap.size, 4, none⟩ = some (.int .i64 mm)) := fun w4 hw => (World.cell?_of_block (w := w2) (a := ⟨w.heap.size, 4, none⟩) hw).trans e4
    unfold ptr at i1
    rw [show kN false = 0 from rfl, show ((0 : Nat) : Int) = 0 from rfl] at i1
    have HN := hid hN
    generalize (T false).L.length = sz at *
    generalize (T false).y = yy at *
    clear R2 Z2 Z h hN hc hc2 _u nX nG hX2 hg2 CX dr ct hlv p0 p7 z0 z1 hqs lb hn1 hm1 hN2 hm
    go_enter Tryd.func30, Tryd.ntmps30
    go_wp2_with (first
      | (go_at_call 49; refine i0.mono ?_; rintro r w3 ⟨rfl, hw3⟩; have hw3 := hw3.symm; subst hw3)
      | (go_at_call 28; refine ip.mono ?_; rintro r w3 ⟨rfl, hw3⟩; have hw3 := hw3.symm; subst hw3))
    go_region_held3 (fun w' => w'.cell? ⟨w.heap.size, 4, none⟩ = some (.int .i64 mm)) (first | exact e4 | exact S4) (first
      | (go_at_call 28; (with_reducible refine ip2.mono ?_); rintro r w3 ⟨rfl, hw3⟩; have hw3 := hw3.symm; subst hw3)
      | (go_at_call 51; (with_reducible refine i1.mono ?_); rintro r w4 ⟨rfl, hw4, hk4⟩; have S4 := K4.out _ hk4; clear hk4))
    go_wp2
    go_ret
    exact ⟨rfl, fin.out _ hw4.out⟩
  · obtain ⟨w1, w2, hw1, hw2, y1, y7, f7, HT⟩ := play_start h true kpt 14 n mm s
    have R2 := HT.out.2.1
    unfold OpC at R2
    have e0 : w2.cell? ⟨w.heap.size, 0, none⟩ = some (.bool true) := by rw [cell_of_row _ _ _ _ _ _ R2]; rfl
    have e2 : w2.cell? ⟨w.heap.size, 2, none⟩ = some (.int .i64 14) := by rw [cell_of_row _ _ _ _ _ _ R2]; rfl
    have e3 : w2.cell? ⟨w.heap.size, 3, none⟩ = some (.int .i64 n) := by rw [cell_of_row _ _ _ _ _ _ R2]; rfl
    have e4 : w2.cell? ⟨w.heap.size, 4, none⟩ = some (.int .i64 mm) := by rw [cell_of_row _ _ _ _ _ _ R2]; rfl
    have e5 : w2.cell? ⟨w.heap.size, 5, none⟩ = some (.string ⟨s.toArray⟩) := by rw [cell_of_row _ _ _ _ _ _ R2]; rfl
    have i0 := rSizeL (HT.out.1.r true)
    have cx : w2.cell? ⟨X, 3, none⟩ = some (.pointer (some ⟨(T true).y, 0, none⟩)) := HT.out.1.cx true
    have ct : w2.cell? ⟨X, 1, none⟩ = some (.pointer (some ⟨(T true).q, 0, none⟩)) := HT.out.1.ct true
    have Z2 : Tb w2 := Z.below HT.out.2.2.1 hX4
    have lb := hN true
    have nX := HT.out.1.noX
    have nG : NoT T w.heap.size := h.noG (Nat.le_refl _)
    have hX2 := HT.out.1.lt
    have hg2 : w.heap.size < w2.heap.size := HT.out.2.2.2
    have CX := HT.out.1.cx true
    have dr : Below w2.heap.size w2 w2.drew := (Below.refl _ _).drew
    have hc2 : Ct { S with kp := kpt } m := ⟨hc.a, hc.e, hc.o, hc.tx⟩
    have fin : Hid (∀ w', (∃ ρ' S', Tw w' X ρ' S' T ∧ Ct S' (m + 2) ∧ S'.kp = kpt ∧ Below X w2.drew w') → PlP w X m N T w') := fun w' ⟨ρ', S', q1, q2, _, q4⟩ => PlP.of h q1 q2 (HT.out.2.2.1.drew.trans q4) hN
    have p0 := pk_nonneg n 7 (by omega)
    have p7 := pk_lt n 7 (by omega)
    have ip := pick_any n 7 hn1.1 hn1.2 (by omega) (by omega) w2
    obtain ⟨lv, hlv⟩ : ∃ lv : Nat, pk n 7 = (lv : Int) := ⟨(pk n 7).toNat, by omega⟩
    rw [hlv] at ip
    obtain ⟨qv, hqv, hqs⟩ : ∃ qv : Nat, (((T true).L.length : Int) / 2 ^ lv) = (qv : Int) ∧ qv ≤ (T true).L.length := ⟨(T true).L.length / 2 ^ lv, by simp, Nat.div_le_self _ _⟩
    have ip2 := pick_any mm (1 + (qv : Int)) hm1.1 hm1.2 (by omega) (by omega) w2.drew
    have sw : IntKind.i64.wrap (1 + (qv : Int)) = 1 + (qv : Int) := wrap_small _ (by omega) (by omega)
    have z0 := pk_nonneg mm (1 + (qv : Int)) (by omega)
    have z1 := pk_lt mm (1 + (qv : Int)) (by omega)
    have c0 : (0 : Int) ≤ (lv : Int) := by omega
    have c1 : (0 : Int) ≤ (qv : Int) := by omega
    have c2 : (lv : Int) ≤ 64 := by omega
    generalize pk mm (1 + (qv : Int)) = pp at *
    have i1 := whashes_keep (HT.out.1.below dr) hc2 hm true (lv : Int) pp (by omega) (by omega) (g := w.heap.size) hg2 (by cases hr : ρ w.heap.size with | none => rfl | some r => have := (h.bk.lt _ r hr).2; omega) nG
    have K4 : Hid (∀ w4 : World, w4.heap[w.heap.size]? = w2.drew.heap[w.heap.size]? → w4.cell? ⟨w.heap.size, 4, none⟩ = some (.int .i64 mm)) := fun w4 hw => (World.cell?_of_block (w := w2) (a := ⟨w.heap.size, 4, none⟩) hw).trans e4
    unfold ptr at i1
    rw [show kN true = 1 from rfl, show ((1 : Nat) : Int) = 1 from rfl] at i1
    have HN := hid hN
    generalize (T true).L.length = sz at *
    generalize (T true).y = yy at *
    clear R2 Z2 Z h hN hc hc2 _u nX nG hX2 hg2 CX dr ct hlv p0 p7 z0 z1 hqs lb hn1 hm1 hN2 hm
    go_enter Tryd.func30, Tryd.ntmps30
    go_wp2_with (first
      | (go_at_call 49; refine i0.mono ?_; rintro r w3 ⟨rfl, hw3⟩; have hw3 := hw3.symm; subst hw3)
      | (go_at_call 28; refine ip.mono ?_; rintro r w3 ⟨rfl, hw3⟩; have hw3 := hw3.symm; subst hw3))
    go_region_held3 (fun w' => w'.cell? ⟨w.heap.size, 4, none⟩ = some (.int .i64 mm)) (first | exact e4 | exact S4) (first
      | (go_at_call 28; (with_reducible refine ip2.mono ?_); rintro r w3 ⟨rfl, hw3⟩; have hw3 := hw3.symm; subst hw3)
      | (go_at_call 51; (with_reducible refine i1.mono ?_); rintro r w4 ⟨rfl, hw4, hk4⟩; have S4 := K4.out _ hk4; clear hk4))
    go_wp2
    go_ret
    exact ⟨rfl, fin.out _ hw4.out⟩
end Go.Proofs.YtfddkmkibfmmgaaDoor
