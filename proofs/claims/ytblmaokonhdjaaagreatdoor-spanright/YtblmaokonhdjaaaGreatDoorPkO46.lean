import Derived.Test.YtblmaokonhdjaaaGreatDoorPkO28
import Derived.Test.YtblmaokonhdjaaaGreatDoorPkFN3
import Derived.Test.YtblmaokonhdjaaaGreatDoorPkPR6
import Derived.Laws.BitsAllLaws
import Derived.Test.YtblmaokonhdjaaaGreatDoorPkPP4
namespace Go.Proofs.YtblmaokonhdjaaaGreatDoor
open Go.RowKit

/-- append([]string(nil), l...): a list of one's own with l's texts -/
theorem append_at (w : World) (a : Option Addr) (cap : Nat) (L : List (List UInt8)) (hA : At w a L) (hlen : L.length ≤ 8796093022208) :
    ∃ v' w', (Builtin.append_ #[22, 22] 22 #[.slice none 0 0, .slice a L.length cap]).run Tryz.prog w = .ok v' w' ∧ Own w' w.heap.size v' (svs L) ∧ Below w.heap.size w w' := by
  obtain ⟨i0, hi, hz0, hz1, hz2⟩ := info_parts infoS
  by_cases h0 : L.length = 0
  · obtain rfl : L = [] := List.length_eq_zero_iff.1 h0
    refine ⟨_, w, append_zero w _ ?_, Own.nil _ _, Below.refl _ _⟩
    cases a with
    | none => exact Src.ofNil w Tryz.underlying22 cap
    | some x => exact Src.ofSlice w Tryz.underlying22 x 0 cap [] (by simp) (fun j u hj => by simp at hj) (fun u hu => by simp at hu)
  · obtain ⟨x, rfl⟩ := hA.pos (by omega)
    have hsrc : Src Tryz.prog 1 22 (.slice (some x) L.length cap) L.length (svs L) w :=
      Src.ofSlice w Tryz.underlying22 x L.length cap (svs L) (by rw [svs_length, Nat.mul_one]) (fun j u hj => by
        rw [svs, List.getElem?_map] at hj
        cases hp : L[j]? with
        | none => rw [hp] at hj; cases hj
        | some p =>
          rw [hp] at hj
          obtain rfl := Option.some.inj hj
          obtain ⟨y, e, _, hc⟩ := hA j p hp
          cases e
          exact hc) (fun u hu => svs_one hu)
    obtain ⟨v', w', h1, h2, h3, h4⟩ := run_append_O (P := Tryz.prog) w w.heap.size 22 22 22 9 i0 (.string ⟨#[]⟩) Tryz.underlying22 hi hz0 hz1 rfl (.slice none 0 0) (svs []) (Own.nil _ _) _ L.length (svs L) hsrc
      (by rw [svs_length, hz2]; simp; omega) (by rw [svs_length, maxLen]; simp; omega) (Nat.le_refl _) (fun _ => by omega)
    exact ⟨v', w', h1, by simpa [svs] using h2, Below.ofGrown h3 (Own.nil w w.heap.size).ge (Nat.le_refl _)⟩
end Go.Proofs.YtblmaokonhdjaaaGreatDoor

namespace Go.Proofs.YtblmaokonhdjaaaGreatDoor
open Go.RowKit
def spare : List UInt8 := [115, 112, 97, 114, 101]
theorem spare_sv : sv spare = .string ⟨#[115, 112, 97, 114, 101]⟩ := rfl
def behind (j : Nat) : List (List UInt8) := List.replicate j spare ++ List.replicate (8 - j) []
theorem behind_len (j : Nat) (h : j ≤ 8) : (behind j).length = 8 := by simp [behind]; omega
theorem behind_set : ∀ j : Fin 8, (behind j.val).set j.val spare = behind (j.val + 1) := by decide
theorem behind_get : ∀ j : Fin 8, (behind 8)[j.val]? = some spare := by decide
theorem behind_step (ps : List (List UInt8)) (j : Nat) (h : j < 8) : (ps ++ behind j).set (ps.length + j) spare = ps ++ behind (j + 1) := by
  rw [List.set_append_right _ _ (by omega), show ps.length + j - ps.length = j from by omega, behind_set ⟨j, h⟩]
set_option maxRecDepth 100000 in
set_option maxHeartbeats 1000000 in
theorem lent_any (ps : List (List UInt8)) (a : Option Addr) (cap : Nat) (w : World) (hn : ps.length ≤ 8796093021952) (hA : At w a ps) :
    Calls Tryz.prog 27 #[.slice a ps.length cap] w fun e w' => e = .returned (.slice (some ⟨w.heap.size, 0, none⟩) (ps.length + 8) (ps.length + 8)) ∧ Row w' w.heap.size (ps ++ behind 8) ∧ Below w.heap.size w w' := by
  have hmk := make_texts w (ps.length + 8) (by omega)
  have e8 : ((ps.length + 8 : Nat) : Int) = (ps.length : Int) + 8 := by omega
  rw [e8] at hmk
  have R1 : Row (w.alloc (.cells (svs (List.replicate (ps.length + 8) [])).toArray 9)) w.heap.size (List.replicate ps.length [] ++ List.replicate 8 []) := by
    rw [List.replicate_append_replicate]; exact heap_alloc_new w _
  have hb1 := (Below.refl w.heap.size w).alloc (Nat.le_refl _) (.cells (svs (List.replicate (ps.length + 8) [])).toArray 9)
  obtain ⟨w2, hcp, hR2, hb2⟩ := copy_texts _ w.heap.size a cap ps (List.replicate 8 []) (hA.below hb1 (Nat.le_refl _)) R1 (ps.length + 8) (ps.length + 8) (by simp)
  have B2 : Below w.heap.size w w2 := hb1.trans (hb2.below (Nat.le_refl _) (by rw [size_alloc]; omega))
  have HR2 := hid hR2
  have HB2 := hid B2
  clear hR2 B2 R1 hb2 hb1 hA
  generalize w.alloc (.cells (svs (List.replicate (ps.length + 8) [])).toArray 9) = w1 at *
  obtain ⟨n, hpn⟩ : ∃ n, ps.length = n := ⟨_, rfl⟩
  rw [hpn] at hmk hcp hn ⊢
  go_enter Tryz.func27, Tryz.ntmps27
  go_wp2
  clear hcp hmk
  go_loopw [4] (fun i w' => ∃ j : Nat, j ≤ 8 ∧ i = .int .i64 ((n : Int) + (j : Int)) ∧ Hid (Row w' w.heap.size (ps ++ behind j)) ∧ Hid (Below w.heap.size w w')) (fun i _ => n + 8 - (intOf i).toNat)
  case atStart => exact ⟨0, by omega, by simp, HR2, HB2⟩
  case round =>
    clear HR2 HB2
    obtain ⟨j, hj, rfl, hR, hB⟩ := hrel
    by_cases hlt : j < 8
    · have b0 : (n : Int) + (j : Int) < (n : Int) + 8 := by omega
      have b1 : (0 : Int) ≤ (n : Int) + (j : Int) := by omega
      have t1 : ((n : Int) + (j : Int)).toNat = n + j := by omega
      have hl : (ps ++ behind j).length = n + 8 := by rw [List.length_append, behind_len j (by omega), hpn]
      have cp := hR.out.cell (List.getElem?_eq_getElem (show n + j < (ps ++ behind j).length by omega))
      have fz := hR.out.free (show n + j < (ps ++ behind j).length by omega)
      have R' := hR.out.set (n + j) spare
      rw [← hpn, behind_step ps j hlt, hpn] at R'
      have B' := hid (hB.out.setCell (p := ⟨w.heap.size, n + j, none⟩) (Nat.le_refl _) (sv spare))
      rw [spare_sv] at R' B'
      have R'' := hid R'
      clear R' hR hB
      go_wp2
      exact ⟨⟨j + 1, by omega, by rw [show (n : Int) + (j : Int) + 1 = (n : Int) + ((j + 1 : Nat) : Int) from by omega], R'', B'⟩, by simp [intOf]; omega⟩
    · obtain rfl : j = 8 := by omega
      have b0 : ¬ (n : Int) + ((8 : Nat) : Int) < (n : Int) + 8 := by omega
      go_wp2
      go_ret
      exact ⟨rfl, hR.out, hB.out⟩
set_option maxRecDepth 100000 in
set_option maxHeartbeats 1000000 in
theorem kept_yes (ps : List (List UInt8)) (H : Nat) (a : Option Addr) (cap : Nat) (w : World) (hn : ps.length ≤ 8796093021952) (hR : Row w H (ps ++ behind 8)) (hA : At w a ps) :
    Calls Tryz.prog 30 #[.slice (some ⟨H, 0, none⟩) (ps.length + 8) (ps.length + 8), .slice a ps.length cap] w fun e w' => e = .returned (.bool true) ∧ Below w.heap.size w w' ∧ w'.heap = w.heap := by
  have hA1 : At w (some ⟨H, 0, none⟩) ps := by
    have := hR.at.take ps.length
    rwa [List.take_left] at this
  have cS := same_yes ps (some ⟨H, 0, none⟩) a (ps.length + 8) cap w hA1 hA (by omega)
  have HR := hid hR
  obtain ⟨n, hpn⟩ : ∃ n, ps.length = n := ⟨_, rfl⟩
  rw [hpn] at cS hn ⊢
  clear hA hA1 hR
  have hnn : (n : Int) ≤ (n : Int) + 8 := by omega
  go_enter Tryz.func30, Tryz.ntmps30
  go_wp2
  go_loopw [5] (fun i w' => ∃ j : Nat, j ≤ 8 ∧ i = .int .i64 ((n : Int) + (j : Int)) ∧ w' = w) (fun i _ => n + 8 - (intOf i).toNat)
  case atStart => exact ⟨0, by omega, by simp, rfl⟩
  case round =>
    obtain ⟨j, hj, rfl, rfl⟩ := hrel
    by_cases hlt : j < 8
    · have b0 : (n : Int) + (j : Int) < (n : Int) + 8 := by omega
      have b1 : (0 : Int) ≤ (n : Int) + (j : Int) := by omega
      have t1 : ((n : Int) + (j : Int)).toNat = n + j := by omega
      have cp := HR.out.cell (j := n + j) (p := spare) (by
        rw [List.getElem?_append_right (by omega), hpn, show n + j - n = j from by omega]
        exact behind_get ⟨j, hlt⟩)
      rw [spare_sv] at cp
      go_wp2
      exact ⟨⟨j + 1, by omega, by rw [show (n : Int) + (j : Int) + 1 = (n : Int) + ((j + 1 : Nat) : Int) from by omega], trivial⟩, by simp [intOf]; omega⟩
    · obtain rfl : j = 8 := by omega
      have b0 : ¬ (n : Int) + ((8 : Nat) : Int) < (n : Int) + 8 := by omega
      go_wp2_with (go_at_call 21; refine cS.mono ?_; rintro e w9 ⟨rfl, hw9, hh9⟩)
      go_ret
      exact ⟨rfl, hw9, hh9⟩
end Go.Proofs.YtblmaokonhdjaaaGreatDoor

/- Layer 14, the law: bent -/
namespace Go.Proofs.YtblmaokonhdjaaaGreatDoor
open Go.RowKit Go.Shelf
namespace Spn
theorem own14_set {w : World} {base g cap : Nat} {cs : List Value} (h : Own w base (.slice (some ⟨g, 0, none⟩) cs.length cap) cs) (k : Nat) (hk : k < cs.length) (x : Value) :
    Own (w.setCell ⟨g, k, none⟩ x) base (.slice (some ⟨g, 0, none⟩) (cs.set k x).length cap) (cs.set k x) := by
  rcases h with ⟨h, _⟩ | ⟨g', cap', h, h1, h2, h3, h4, h5, h6⟩
  · cases h
  · injection h with e1 e2 e3
    injection e1 with e1
    injection e1 with e1
    subst e1 e3
    refine .inr ⟨g, cap, rfl, h1, by rw [List.length_set]; exact h2, h3, fun j v hv => ?_, fun j hj => ?_, by simpa [World.setCell] using h6⟩
    · rw [Nat.zero_add]
      rw [List.getElem?_set] at hv
      split at hv
      · rename_i e
        subst e
        cases hv
        have := (h5 k (by omega)).1
        rw [Nat.zero_add] at this
        exact World.cell?_setCell_same' _ _ _ this
      · rename_i e
        have := h4 j v hv
        rw [Nat.zero_add] at this
        exact (World.cell?_setCell_other _ _ _ _ (by intro h; injection h; omega)).trans this
    · have := h5 j hj
      rw [Nat.zero_add] at this ⊢
      refine ⟨?_, by rw [World.frozen?_setCell]; exact this.2⟩
      by_cases e : j = k
      · subst e
        rw [World.cell?_setCell_same' _ _ _ this.1]; rfl
      · rw [World.cell?_setCell_other _ _ _ _ (by intro h; injection h; omega)]
        exact this.1
theorem conv_nil14 (w : World) : (convert 36 9 (.slice none 0 0)).run Tryz.prog w = .ok (.string ⟨#[]⟩) w := by kernel_rfl
/-- a text whose last byte is another one -/
def bnt (s : List UInt8) : List UInt8 := s.set (s.length - 1) (s.getD (s.length - 1) 0 ^^^ 1)
theorem bnt_len (s : List UInt8) : (bnt s).length = s.length := by unfold bnt; rw [List.length_set]
theorem bv_set (s : List UInt8) (k : Nat) (x : UInt8) : bv (s.set k x) = (bv s).set k (.int .u8 (x.toNat : Int)) := by unfold bv; rw [List.map_set]
theorem xor14 (x : UInt8) : bits .xor .u8 (x.toNat : Int) 1 = ((x ^^^ 1).toNat : Int) := by
  have := Go.u8_xor_nat x.toNat 1 (UInt8.toNat_lt x) (by omega)
  rw [show ((1 : Nat) : Int) = 1 from rfl] at this
  rw [this, UInt8.toNat_xor]
  rfl
set_option maxRecDepth 100000 in
set_option maxHeartbeats 2000000 in
theorem bent14_any (t : List UInt8) (ht : t.length ≤ 4611686018427387904) (w : World) :
    Calls Tryz.prog 31 #[sv t] w fun r w' => r = .returned (sv (bnt t)) ∧ Below w.heap.size w w' := by
  obtain ⟨v1, w1, hcv, O1, b1⟩ := conv_bytes w ⟨t.toArray⟩ (by rw [sv_size, maxLen]; omega)
  rw [sv_data] at O1
  have HB := hid b1
  rw [show sv t = Value.string ⟨t.toArray⟩ from rfl]
  rcases O1 with ⟨rfl, e⟩ | ⟨g, cap, rfl, h1, h2, h3, h4, h5, h6⟩
  · have e' : t = [] := List.map_eq_nil_iff.1 e
    subst e'
    have cv := conv_nil14 w1
    clear b1 e ht
    go_enter Tryz.func31, Tryz.ntmps31
    go_wp2
    go_ret
    exact ⟨rfl, HB.out⟩
  · have O1 : OwnB w1 w.heap.size (.slice (some ⟨g, 0, none⟩) (bv t).length cap) t := .inr ⟨g, cap, rfl, h1, h2, h3, h4, h5, h6⟩
    rcases Nat.eq_zero_or_pos t.length with e | e
    · have e' : t = [] := List.eq_nil_of_length_eq_zero e
      subst e'
      have cv := conv_own O1 (by simp)
      rw [show (bv ([] : List UInt8)).length = 0 from rfl] at hcv cv
      rw [show sv ([] : List UInt8) = Value.string ⟨#[]⟩ from rfl] at cv
      clear b1 e ht O1 h1 h2 h3 h4 h5 h6
      go_enter Tryz.func31, Tryz.ntmps31
      go_wp2
      go_ret
      exact ⟨rfl, HB.out⟩
    · obtain ⟨m, hm⟩ : ∃ m, t.length = m + 1 := ⟨t.length - 1, by omega⟩
      have hx : t[m]? = some (t.getD m 0) := by rw [List.getD_eq_getElem?_getD, List.getElem?_eq_getElem (by omega)]; rfl
      obtain ⟨x, hxx⟩ : ∃ x, t.getD m 0 = x := ⟨_, rfl⟩
      rw [hxx] at hx
      have hb : bnt t = t.set m (x ^^^ 1) := by unfold bnt; rw [hm, Nat.add_sub_cancel, hxx]
      have c1 : w1.cell? ⟨g, m, none⟩ = some (.int .u8 (x.toNat : Int)) := by
        have := h4 m (.int .u8 (x.toNat : Int)) (by unfold bv; rw [List.getElem?_map, hx]; rfl)
        rwa [Nat.zero_add] at this
      have f1 : w1.frozen? ⟨g, m, none⟩ = false := by
        have := (h5 m (by rw [bv_length] at h2; omega)).2
        rwa [Nat.zero_add] at this
      have hxr := xor14 x
      have O2 := own14_set O1 m (by rw [bv_length]; omega) (.int .u8 ((x ^^^ 1).toNat : Int))
      rw [← bv_set, ← hb, bv_length, bnt_len, hm] at O2
      have cv := conv_own O2 (by simp)
      rw [show sv (bnt t) = Value.string ⟨(bnt t).toArray⟩ from rfl] at cv ⊢
      rw [bv_length, hm] at hcv
      have B2 := hid (b1.setCell (p := ⟨g, m, none⟩) h1 (.int .u8 ((x ^^^ 1).toNat : Int)))
      have e1 : (0 : Int) < (m : Int) + 1 := by omega
      have hmm : m + 1 ≤ 4611686018427387904 := by omega
      generalize (ByteArray.mk t.toArray) = TB at *
      generalize (ByteArray.mk (bnt t).toArray) = RB at *
      generalize ((x ^^^ 1).toNat : Int) = z at *
      generalize (x.toNat : Int) = z0 at *
      clear b1 e ht O1 O2 h1 h2 h3 h4 h5 h6 hx hb hxx hm
      go_enter Tryz.func31, Tryz.ntmps31
      go_wp2
      go_ret
      exact ⟨rfl, B2.out⟩
end Spn
end Go.Proofs.YtblmaokonhdjaaaGreatDoor

/- Layer 14, the program: Prove -/
namespace Go.Proofs.YtblmaokonhdjaaaGreatDoor
open Go.RowKit Go.Shelf
namespace Spn
abbrev rn0 : Value := .agg #[.int .i64 0, .int .i64 0, .int .i64 0, .slice none 0 0]
theorem sizeRn : (Tryz.prog.info? 24).map (·.size) = some 4 := by kernel_rfl
theorem RnI.four {w : World} {g : Nat} {n x y : Int} {v : Value} (h : RnI w g n x y v) (n' x' y' : Int) (v' : Value) : RnI ((((w.setCell ⟨g, 0, none⟩ (.int .i64 n')).setCell ⟨g, 1, none⟩ (.int .i64 x')).setCell ⟨g, 2, none⟩ (.int .i64 y')).setCell ⟨g, 3, none⟩ v') g n' x' y' v' :=
  heap_setCell_same _ g 3 _ _ _ (heap_setCell_same _ g 2 _ _ _ (heap_setCell_same _ g 1 _ _ _ (heap_setCell_same w g 0 _ _ _ h)))
theorem below_four {w w' : World} {B g : Nat} (h : Below B w w') (hg : B ≤ g) (a b c d : Value) : Below B w ((((w'.setCell ⟨g, 0, none⟩ a).setCell ⟨g, 1, none⟩ b).setCell ⟨g, 2, none⟩ c).setCell ⟨g, 3, none⟩ d) :=
  Below.setCell (p := ⟨g, 3, none⟩) (Below.setCell (p := ⟨g, 2, none⟩) (Below.setCell (p := ⟨g, 1, none⟩) (Below.setCell (p := ⟨g, 0, none⟩) h hg _) hg _) hg _) hg _
theorem keep_four (w : World) (g : Nat) (a b c d : Value) : Keep (fun k => k = g) w ((((w.setCell ⟨g, 0, none⟩ a).setCell ⟨g, 1, none⟩ b).setCell ⟨g, 2, none⟩ c).setCell ⟨g, 3, none⟩ d) :=
  (((Keep.ofSet (S := fun k => k = g) w g 0 a rfl).trans (Keep.ofSet (S := fun k => k = g) _ g 1 b rfl) (fun _ _ e => e)).trans (Keep.ofSet (S := fun k => k = g) _ g 2 c rfl) (fun _ _ e => e)).trans (Keep.ofSet (S := fun k => k = g) _ g 3 d rfl) (fun _ _ e => e)
/-- may it be proved? -/
def prvB (k : Nat) (n x y : Int) : Bool := decide (n ≤ (k : Int)) && runB n x y
set_option maxRecDepth 100000 in
set_option maxHeartbeats 4000000 in
theorem prove14_bad {w : World} {q h : Nat} {L : List (List UInt8)} {F : Nat → Prop} (t : TrL w q h L F) (n x y : Int) (he : prvB L.length n x y = false) :
    Calls Tryz.prog 24 #[.pointer (some ⟨q, 0, none⟩), .int .i64 n, sg x y] w fun r w' => r = .returned (.tuple #[rn0, .int .i64 140]) ∧ Below w.heap.size w w' := by
  have b0 := (Below.refl w.heap.size w).alloc (Nat.le_refl _) (.cells #[.int .i64 x, .int .i64 y] 50)
  have S0 := SpI.new w x y
  have b1' := (Below.refl _ (w.alloc (.cells #[.int .i64 x, .int .i64 y] 50))).alloc (Nat.le_refl _) (.cells #[.int .i64 0, .int .i64 0, .int .i64 0, .slice none 0 0] 24)
  have b1 := b0.trans (b1'.mono b0.size)
  have R1 := RnI.new (w.alloc (.cells #[.int .i64 x, .int .i64 y] 50)) 0 0 0 (.slice none 0 0)
  rw [size_alloc] at R1
  have S1 := S0.below b1'
  have i1 := tSizeL (t.below b1)
  have hc0 := R1.c0
  have hc1 := R1.c1
  have hc2 := R1.c2
  have hc3 := R1.c3
  have hf0 := frozen_of_row _ _ 0 _ _ R1
  have hf1 := frozen_of_row _ _ 1 _ _ R1
  have hf2 := frozen_of_row _ _ 2 _ _ R1
  have hf3 := frozen_of_row _ _ 3 _ _ R1
  have sc0 := S1.c0
  have sc1 := S1.c1
  have HR := hid R1
  have HB := hid b1
  generalize L.length = k at *
  by_cases h1 : n ≤ (k : Int)
  · have g2 : ¬ (k : Int) < n := by omega
    have hr : runB n x y = false := by unfold prvB at he; rw [decide_eq_true h1, Bool.true_and] at he; exact he
    have i2 := fun w' => isRun_is n x y false hr w'
    clear t b0 S0 b1' b1 R1 S1 he hr h1
    go_enter Tryz.func24, Tryz.ntmps24
    go_wp2_with (first
      | (go_at_call 52; refine i1.mono ?_; rintro r w1 ⟨rfl, h0⟩; have h0 := h0.symm; subst h0)
      | (go_at_call 44; refine (i2 _).mono ?_; rintro r w1 ⟨rfl, b1⟩; have B1 := hid (HB.out.trans (b1.mono HB.out.size)); have S1 := hid (HR.out.below b1); have kc0 := S1.out.c0; have kc1 := S1.out.c1; have kc2 := S1.out.c2; have kc3 := S1.out.c3; have kf0 := frozen_of_row _ _ 0 _ _ S1.out; have kf1 := frozen_of_row _ _ 1 _ _ S1.out; have kf2 := frozen_of_row _ _ 2 _ _ S1.out; have kf3 := frozen_of_row _ _ 3 _ _ S1.out; clear b1))
    refine bodyPost_ret (results_row_tmp rfl _ _ (w.heap.size + 1) 24 _ (0, 0) _ rfl (RnI.four S1.out 0 0 0 (.slice none 0 0)) Tryz.underlying24 rfl sizeRn) rfl ⟨rfl, ?_⟩
    exact below_four B1.out (Nat.le_succ _) _ _ _ _
  · have g2 : (k : Int) < n := by omega
    clear t b0 S0 b1' b1 R1 S1 he h1
    go_enter Tryz.func24, Tryz.ntmps24
    go_wp2_with (go_at_call 52; refine i1.mono ?_; rintro r w1 ⟨rfl, h0⟩; have h0 := h0.symm; subst h0)
    refine bodyPost_ret (results_row_tmp rfl _ _ (w.heap.size + 1) 24 _ (0, 0) _ rfl HR.out Tryz.underlying24 rfl sizeRn) rfl ⟨rfl, HB.out⟩
/-- the hashes that are told -/
def tolS (L : List (List UInt8)) (n s e : Nat) : List (List UInt8) := (Tree.runF n 0 n s e).map fun q => Tree.root (Til.sg L q.1 q.2)
/-- what Prove answers -/
def PrS (w : World) (n s e : Nat) (H : List (List UInt8)) (r : Ending) (w' : World) : Prop :=
  ∃ gh, r = .returned (.tuple #[rn (n : Int) (s : Int) (e : Int) (.slice (some ⟨gh, 0, none⟩) H.length H.length), .int .i64 0]) ∧ Row w' gh H ∧ w.heap.size ≤ gh ∧ Below w.heap.size w w'
set_option maxRecDepth 100000 in
set_option maxHeartbeats 4000000 in
theorem prove14_ok {w : World} {q h : Nat} {L : List (List UInt8)} {F : Nat → Prop} (t : TrL w q h L F) (Z : Tb w) (n s e : Nat) (hse : s < e) (hen : e ≤ n) (hn : n ≤ L.length) :
    Calls Tryz.prog 24 #[.pointer (some ⟨q, 0, none⟩), .int .i64 (n : Int), sg (s : Int) (e : Int)] w (PrS w n s e (tolS L n s e)) := by
  have hn20 := t.n20
  obtain ⟨Tn, Ti⟩ := Bat.apt_nodup (Tree.runF_apart s e n 0 n (by omega) (Nat.le_refl _) hse)
  have hTle := told_len (n := n) (s := s) (e := e) (by omega) (by omega)
  have b0 := (Below.refl w.heap.size w).alloc (Nat.le_refl _) (.cells #[.int .i64 (s : Int), .int .i64 (e : Int)] 50)
  have S0 := SpI.new w (s : Int) (e : Int)
  have b1' := (Below.refl _ (w.alloc (.cells #[.int .i64 (s : Int), .int .i64 (e : Int)] 50))).alloc (Nat.le_refl _) (.cells #[.int .i64 0, .int .i64 0, .int .i64 0, .slice none 0 0] 24)
  have b1 := b0.trans (b1'.mono b0.size)
  have R1 := RnI.new (w.alloc (.cells #[.int .i64 (s : Int), .int .i64 (e : Int)] 50)) 0 0 0 (.slice none 0 0)
  rw [size_alloc] at R1
  have S1 := S0.below b1'
  have i1 := tSizeL (t.below b1)
  have i2 := fun w' => isRun_is (n : Int) (s : Int) (e : Int) true (by simp [runB]; omega) w'
  have i3 := fun w' => told14_any n s e hse hen (by omega) w'
  have sc0 := S1.c0
  have sc1 := S1.c1
  unfold tolS
  have hTi : ∀ q ∈ Tree.runF n 0 n s e, q.1 ≤ q.2 ∧ q.2 ≤ L.length := fun q hq => by have := Ti q hq; omega
  generalize Tree.runF n 0 n s e = S at *
  have HT := hid t
  have HZ := hid Z
  have hZl := Z.lt
  have HTI := hid hTi
  have HR := hid R1
  have HS := hid S1
  have HB := hid b1
  obtain ⟨k, hk⟩ : ∃ k, S.length = k := ⟨_, rfl⟩
  have Hk := hid hk
  rw [hk] at hTle
  have mk := fun w' => make_texts w' k (by omega)
  have g2 : ¬ (L.length : Int) < (n : Int) := by omega
  clear t Z hTi hk Tn Ti b0 S0 b1' b1 R1 S1
  go_enter Tryz.func24, Tryz.ntmps24
  go_wp2_with (first
    | (go_at_call 52; refine i1.mono ?_; rintro r w1 ⟨rfl, h0⟩; have h0 := h0.symm; subst h0)
    | (go_at_call 44; fail))
  clear sc0 sc1 i1
  generalize (w.alloc (.cells #[.int .i64 (s : Int), .int .i64 (e : Int)] 50)).alloc (.cells #[.int .i64 0, .int .i64 0, .int .i64 0, .slice none 0 0] 24) = w0 at *
  refine (i2 _).mono ?_
  rintro r w0a ⟨rfl, b0⟩
  have R2 := hid (HR.out.below b0)
  have S2 := hid (HS.out.below b0)
  have B2 := hid (HB.out.trans (b0.mono HB.out.size))
  have sc0 := S2.out.c0
  have sc1 := S2.out.c1
  clear i2 b0 HR HS HB
  go_wp2_with (go_at_call 53; fail)
  refine (i3 _).mono ?_
  rintro r w1 ⟨v1, rfl, o1, f1, b1⟩
  obtain ⟨a1, c1, rfl, q1, q2⟩ := OwnM.shape o1
  rw [Hk.out]
  have R3 := hid (R2.out.below b1)
  have S3 := hid (S2.out.below b1)
  have B3 := hid (B2.out.trans (b1.mono B2.out.size))
  have O1 := hid o1
  have mk1 := mk w1
  clear sc0 sc1 i3 b1 o1 f1 R2 S2 B2
  have R0 : Hid (Row (w1.alloc (.cells (svs (List.replicate k [])).toArray 9)) w1.heap.size (vpre (fun s : Nat × Nat => Tree.root (Til.sg L s.1 s.2)) S 0)) := by
    have := heap_alloc_new w1 (.cells (svs (List.replicate k [])).toArray 9)
    unfold Hid Row
    rw [vpre_zero, Hk.out]
    exact this
  have BA := hid ((Below.refl w1.heap.size w1).alloc (Nat.le_refl _) (.cells (svs (List.replicate k [])).toArray 9))
  have hgl := lt_of_heap R3.out
  have hgs := lt_of_heap S3.out
  have z1 := B3.out.size
  clear mk
  go_wp2
  clear mk1
  go_loopw [10, 11, 31] (fun _ _ i w' => ∃ j : Nat, j ≤ k ∧ i = .int .i64 (j : Int) ∧ Hid (Row w' w1.heap.size (vpre (fun s : Nat × Nat => Tree.root (Til.sg L s.1 s.2)) S j)) ∧ Hid (Below w1.heap.size w1 w')) (fun _ _ i _ => k - (intOf i).toNat)
  case atStart => exact ⟨0, by omega, rfl, R0, BA⟩
  case round =>
    clear R0 BA
    obtain ⟨j, hj, rfl, hR, hB⟩ := hrel
    have BW := hid (B3.out.trans (hB.out.mono z1))
    by_cases hjk : j < k
    · have b0 : (j : Int) < (k : Int) := by omega
      have j0 : (0 : Int) ≤ (j : Int) := by omega
      have hjS : j < S.length := by rw [Hk.out]; exact hjk
      obtain ⟨g, rfl, hg, c0, c1'⟩ := ownP_at (O1.out.below hB.out) (List.getElem?_eq_getElem hjS)
      have hs := HTI.out S[j] (List.getElem_mem hjS)
      have hset := hid (vpre_set (fun s : Nat × Nat => Tree.root (Til.sg L s.1 s.2)) S hjS)
      have hlen := vpre_len (fun s : Nat × Nat => Tree.root (Til.sg L s.1 s.2)) S (Nat.le_of_lt hjS)
      have HX : Hid (tPartO L (S[j].1 : Int) (S[j].2 : Int) = (Tree.root (Til.sg L S[j].1 S[j].2), 0)) := tPartO_nat hs.1 hs.2
      have hbs := (Below.refl wr.heap.size wr).alloc (Nat.le_refl _) (.cells #[.int .i64 (S[j].1 : Int), .int .i64 (S[j].2 : Int)] 50)
      have s0 := SpI.new wr (S[j].1 : Int) (S[j].2 : Int)
      have sc0 := s0.c0
      have sc1 := s0.c1
      have b1 := BW.out.trans (hbs.mono BW.out.size)
      have R1 := hR.out.below hbs hR.out.lt
      have i1 := tPart_any (HT.out.below b1) (S[j].1 : Int) (S[j].2 : Int) (HZ.out.below b1 hZl) HX
      have b2 := hid (hB.out.trans (hbs.mono hB.out.size))
      generalize (S[j].1 : Int) = x0 at *
      generalize (S[j].2 : Int) = x1 at *
      generalize Tree.root (Til.sg L S[j].1 S[j].2) = r at *
      rw [show sv r = Value.string ⟨r.toArray⟩ from rfl] at i1
      have HR1 := hid R1
      clear hs HX hbs s0 hR hB b1 R1
      go_wp2_with (go_at_call 54; refine i1.mono ?_; rintro e w2 ⟨rfl, b3⟩; have B3 := hid b3; have R2 := hid (HR1.out.below b3 HR1.out.lt); clear b3; have f2 := R2.out.free (j := j) (by rw [hlen, Hk.out]; exact hjk); have d2 := R2.out.cell (List.getElem?_eq_getElem (show j < (vpre (fun s : Nat × Nat => Tree.root (Til.sg L s.1 s.2)) S j).length by rw [hlen, Hk.out]; exact hjk)))
      refine ⟨⟨j + 1, by omega, by go_num, ?_, ?_⟩, by simp [intOf]; omega⟩
      · have := R2.out.set j r
        rw [hset.out] at this
        exact this
      · exact Below.setCell (p := ⟨w1.heap.size, j, none⟩) (b2.out.trans (B3.out.mono b2.out.size)) (Nat.le_refl _) _
    · obtain rfl : j = k := by omega
      have b0 : ¬ (j : Int) < (j : Int) := by omega
      have RW := hR.out
      rw [← Hk.out, vpre_all] at RW
      have HRW := hid RW
      have hlm := hid (show (List.map (fun s : Nat × Nat => Tree.root (Til.sg L s.1 s.2)) S).length = j by rw [List.length_map]; exact Hk.out)
      have SW : Hid (RnI wr (w.heap.size + 1) 0 0 0 (.slice none 0 0)) := (hB.out.block (w.heap.size + 1) hgl).trans R3.out
      have PW : SpI wr w.heap.size (s : Int) (e : Int) := (hB.out.block w.heap.size hgs).trans S3.out
      have sc0 := PW.c0
      have sc1 := PW.c1
      have hgr : w1.heap.size < wr.heap.size := hR.out.lt
      have kc0 := SW.out.c0
      have kc1 := SW.out.c1
      have kc2 := SW.out.c2
      have kc3 := SW.out.c3
      have kf0 := frozen_of_row _ _ 0 _ _ SW.out
      have kf1 := frozen_of_row _ _ 1 _ _ SW.out
      have kf2 := frozen_of_row _ _ 2 _ _ SW.out
      have kf3 := frozen_of_row _ _ 3 _ _ SW.out
      clear RW hR PW
      go_wp2
      have hwr := BW.out.size
      refine bodyPost_ret (results_row_tmp rfl _ _ (w.heap.size + 1) 24 _ (0, 0) _ rfl (RnI.four SW.out (n : Int) (s : Int) (e : Int) (.slice (some ⟨w1.heap.size, 0, none⟩) j j)) Tryz.underlying24 rfl sizeRn) rfl ⟨w1.heap.size, by rw [hlm.out]; rfl, ?_, by omega, ?_⟩
      · unfold Row
        rw [(keep_four wr (w.heap.size + 1) _ _ _ _).block w1.heap.size hgr (by omega)]
        exact HRW.out
      · exact below_four BW.out (Nat.le_succ _) _ _ _ _
end Spn
end Go.Proofs.YtblmaokonhdjaaaGreatDoor
