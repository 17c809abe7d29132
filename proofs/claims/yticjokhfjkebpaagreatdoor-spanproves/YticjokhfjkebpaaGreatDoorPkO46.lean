import Derived.Test.YticjokhfjkebpaaGreatDoorPkO25
import Derived.Test.YticjokhfjkebpaaGreatDoorPkTL32
import Derived.BigQuiet
import Derived.OwnWalk
namespace Go.Proofs.YticjokhfjkebpaaGreatDoor
open Go.RowKit

/-- append([]string(nil), l...): a list of one's own with l's texts -/
theorem append_at (w : World) (a : Option Addr) (cap : Nat) (L : List (List UInt8)) (hA : At w a L) (hlen : L.length ≤ 8796093022208) :
    ∃ v' w', (Builtin.append_ #[24, 24] 24 #[.slice none 0 0, .slice a L.length cap]).run Tryz.prog w = .ok v' w' ∧ Own w' w.heap.size v' (svs L) ∧ Below w.heap.size w w' := by
  obtain ⟨i0, hi, hz0, hz1, hz2⟩ := info_parts infoS
  by_cases h0 : L.length = 0
  · obtain rfl : L = [] := List.length_eq_zero_iff.1 h0
    refine ⟨_, w, append_zero w _ ?_, Own.nil _ _, Below.refl _ _⟩
    cases a with
    | none => exact Src.ofNil w Tryz.underlying24 cap
    | some x => exact Src.ofSlice w Tryz.underlying24 x 0 cap [] (by simp) (fun j u hj => by simp at hj) (fun u hu => by simp at hu)
  · obtain ⟨x, rfl⟩ := hA.pos (by omega)
    have hsrc : Src Tryz.prog 1 24 (.slice (some x) L.length cap) L.length (svs L) w :=
      Src.ofSlice w Tryz.underlying24 x L.length cap (svs L) (by rw [svs_length, Nat.mul_one]) (fun j u hj => by
        rw [svs, List.getElem?_map] at hj
        cases hp : L[j]? with
        | none => rw [hp] at hj; cases hj
        | some p =>
          rw [hp] at hj
          obtain rfl := Option.some.inj hj
          obtain ⟨y, e, _, hc⟩ := hA j p hp
          cases e
          exact hc) (fun u hu => svs_one hu)
    obtain ⟨v', w', h1, h2, h3, h4⟩ := run_append_O (P := Tryz.prog) w w.heap.size 24 24 24 9 i0 (.string ⟨#[]⟩) Tryz.underlying24 hi hz0 hz1 rfl (.slice none 0 0) (svs []) (Own.nil _ _) _ L.length (svs L) hsrc
      (by rw [svs_length, hz2]; simp; omega) (by rw [svs_length, maxLen]; simp; omega) (Nat.le_refl _) (fun _ => by omega)
    exact ⟨v', w', h1, by simpa [svs] using h2, Below.ofGrown h3 (Own.nil w w.heap.size).ge (Nat.le_refl _)⟩
end Go.Proofs.YticjokhfjkebpaaGreatDoor

namespace Go.Proofs.YticjokhfjkebpaaGreatDoor
open Go.RowKit
/-- the blocks of the document's tree -/
def Rb (q : Nat) (v : Value) (k : Nat) : Prop := k = q ∨ v.ownBlock = some k
/-- the document's tree: a height and a list of leaves -/
structure RtL (w : World) (q h : Nat) (L : List (List UInt8)) (F : Nat → Prop) : Prop where
  ex : ∃ v, w.heap[q]? = some (.cells #[.int .i64 (h : Int), v] 110 (0, 0)) ∧ Own w 0 v (svs L) ∧ v.ownBlock ≠ some q ∧ F = Rb q v
  hs : Tree.Hs L
  h1 : 1 ≤ h
  h8 : h ≤ 8
  low : ∀ k, F k → 4 ≤ k
  n20 : L.length ≤ 1048576
theorem RtL.lt {w : World} {q h : Nat} {L : List (List UInt8)} {F : Nat → Prop} (t : RtL w q h L F) : ∀ k, F k → k < w.heap.size := by
  obtain ⟨⟨v, r1, o1, _, rfl⟩, _, _, _, _, _⟩ := t
  rintro k (rfl | hk)
  · exact lt_of_heap r1
  · exact o1.ltS k hk
theorem RtL.keep {w w' : World} {q h : Nat} {L : List (List UInt8)} {F S : Nat → Prop} (t : RtL w q h L F) (hk : Keep S w w') (hd : ∀ k, F k → ¬ S k) : RtL w' q h L F := by
  have hlt := t.lt
  obtain ⟨⟨v, r1, o1, n1, rfl⟩, h2, h3, h4, h5, h6⟩ := t
  exact ⟨⟨v, (hk.block q (lt_of_heap r1) (hd q (.inl rfl))).trans r1, o1.keep hk fun k e => hd k (.inr e), n1, rfl⟩, h2, h3, h4, h5, h6⟩
theorem RtL.below {w w' : World} {q h : Nat} {L : List (List UInt8)} {F : Nat → Prop} (t : RtL w q h L F) (hb : Below w.heap.size w w') : RtL w' q h L F :=
  t.keep (Keep.ofBelow (S := fun _ => False) hb) fun _ _ e => e
theorem RtL.mov {w w' : World} {q h : Nat} {L : List (List UInt8)} {F G G' : Nat → Prop} (t : RtL w q h L F) (hm : Mov G w w' G') (hd : ∀ k, F k → ¬ G k) : RtL w' q h L F ∧ ∀ k, F k → ¬ G' k :=
  ⟨t.keep hm.keep hd, fun k hk e => by
    rcases hm.new k e with e | e
    · exact hd k hk e
    · have := t.lt k hk; omega⟩
/-- what lies in its row -/
theorem RtL.open {w : World} {q h : Nat} {L : List (List UInt8)} {F : Nat → Prop} (t : RtL w q h L F) : ∃ a c, w.heap[q]? = some (.cells #[.int .i64 (h : Int), .slice a L.length c] 110 (0, 0)) ∧ Own w 0 (.slice a L.length c) (svs L) ∧ (Value.slice a L.length c).ownBlock ≠ some q ∧ F = Rb q (.slice a L.length c) ∧ At w a L ∧ L.length ≤ c ∧ c ≤ 9223372036854775807 := by
  obtain ⟨⟨v, r1, o1, n1, rfl⟩, _, _, _, _, _⟩ := t
  obtain ⟨a, c, rfl, hA, h1, h2⟩ := o1.at
  exact ⟨a, c, r1, o1, n1, rfl, hA, h1, h2⟩
set_option maxRecDepth 100000 in
theorem rSizeL {w : World} {q h : Nat} {L : List (List UInt8)} {F : Nat → Prop} (t : RtL w q h L F) : Calls Tryz.prog 61 #[.pointer (some ⟨q, 0, none⟩)] w fun r w' => r = .returned (.int .i64 (L.length : Int)) ∧ w' = w := by
  obtain ⟨a, c, r1, _, _, _, _, _, _⟩ := t.open
  have c1 : w.cell? ⟨q, 1, none⟩ = some (.slice a L.length c) := by rw [cell_of_row _ _ _ _ _ _ r1]; rfl
  clear r1 t
  generalize L.length = n at *
  go_enter Tryz.func61, Tryz.ntmps61
  go_wp2
  go_ret
  exact ⟨rfl, rfl⟩
set_option maxRecDepth 100000 in
theorem rNew_any (h : Nat) (h1 : 1 ≤ h) (h8 : h ≤ 8) (w : World) (hT : 4 ≤ w.heap.size) : Calls Tryz.prog 20 #[.int .i64 (h : Int)] w fun r w' => ∃ q F, r = .returned (.tuple #[.pointer (some ⟨q, 0, none⟩), .int .i64 0]) ∧ RtL w' q h [] F ∧ (∀ k, F k → w.heap.size ≤ k) ∧ Below w.heap.size w w' := by
  have c0 : ¬ (h : Int) < 1 := by omega
  have c1 : ¬ (h : Int) > 8 := by omega
  have c2 : ¬ 8 < (h : Int) := by omega
  go_enter Tryz.func20, Tryz.ntmps20
  go_wp2
  go_ret2
  have b1 := (Below.refl w.heap.size w).alloc (Nat.le_refl _) (.cells #[Value.int .i64 (h : Int), .slice none 0 0] 110)
  have r1 := heap_alloc_new w (.cells #[Value.int .i64 (h : Int), .slice none 0 0] 110)
  have hF : ∀ k, Rb w.heap.size (.slice none 0 0) k → w.heap.size ≤ k := fun k hk => by
    rcases hk with hk | hk
    · omega
    · cases hk
  exact ⟨w.heap.size, rfl, _, ⟨⟨_, r1, Own.nil _ _, (fun e => by cases e), rfl⟩, fun x hx => (by cases hx), h1, h8, fun k hk => Nat.le_trans hT (hF k hk), by simp⟩, hF, b1⟩
set_option maxRecDepth 100000 in
theorem rNew_bad (h : Int) (h1 : h < 1 ∨ 8 < h) (w : World) : Calls Tryz.prog 20 #[.int .i64 h] w fun r w' => r = .returned (.tuple #[.pointer none, .int .i64 70]) ∧ w' = w := by
  by_cases hc : h < 1
  · go_enter Tryz.func20, Tryz.ntmps20
    go_wp2
    go_ret2
    exact ⟨rfl, rfl⟩
  · have c1 : h > 8 := by omega
    go_enter Tryz.func20, Tryz.ntmps20
    go_wp2
    go_ret2
    exact ⟨rfl, rfl⟩
set_option maxRecDepth 100000 in
theorem rAdd_bad (q : Nat) (x : List UInt8) (hx : x.length ≠ 32) (w : World) : Calls Tryz.prog 21 #[.pointer (some ⟨q, 0, none⟩), sv x] w fun r w' => r = .returned (.int .i64 71) ∧ w' = w := by
  have hs := sv_size x
  have c0 : (((ByteArray.mk x.toArray).size : Int) != 32) = true := by rw [hs]; simp; omega
  show Calls _ _ #[_, .string ⟨x.toArray⟩] _ _
  go_enter Tryz.func21, Tryz.ntmps21
  go_wp2
  go_ret
  exact ⟨rfl, rfl⟩
set_option maxRecDepth 100000 in
set_option maxHeartbeats 1000000 in
theorem rAdd_full {w : World} {q h : Nat} {L : List (List UInt8)} {F : Nat → Prop} (t : RtL w q h L F) (x : List UInt8) (hx : x.length = 32) (hn : ¬ L.length < 1048576) : Calls Tryz.prog 21 #[.pointer (some ⟨q, 0, none⟩), sv x] w fun r w' => r = .returned (.int .i64 74) ∧ w' = w := by
  have hs := sv_size x
  have c0 : (((ByteArray.mk x.toArray).size : Int) != 32) = false := by rw [hs, hx]; rfl
  obtain ⟨a, c, r1, _, _, _, _, _, _⟩ := t.open
  have c1 : w.cell? ⟨q, 1, none⟩ = some (.slice a L.length c) := by rw [cell_of_row _ _ _ _ _ _ r1]; rfl
  clear r1 t hs
  generalize L.length = n at *
  have c2 : (n : Int) ≥ 1048576 := by omega
  show Calls _ _ #[_, .string ⟨x.toArray⟩] _ _
  go_enter Tryz.func21, Tryz.ntmps21
  go_wp2
  go_ret
  exact ⟨rfl, rfl⟩
set_option maxRecDepth 100000 in
set_option maxHeartbeats 1000000 in
theorem rAdd_any {w : World} {q h : Nat} {L : List (List UInt8)} {F : Nat → Prop} (t : RtL w q h L F) (x : List UInt8) (hx : x.length = 32) (hn : L.length < 1048576) (hT : 4 ≤ w.heap.size) : Calls Tryz.prog 21 #[.pointer (some ⟨q, 0, none⟩), sv x] w fun r w' => r = .returned (.int .i64 0) ∧ ∃ F', RtL w' q h (L ++ [x]) F' ∧ Mov F w w' F' := by
  have hs := sv_size x
  have c0 : (((ByteArray.mk x.toArray).size : Int) != 32) = false := by rw [hs, hx]; rfl
  have hsx : Tree.Hs (L ++ [x]) := fun y hy => by
    rcases List.mem_append.1 hy with hy | hy
    · exact t.hs y hy
    · rw [List.mem_singleton.1 hy]; exact hx
  obtain ⟨a, c, r1, o1, n1, rfl, _, _, _⟩ := t.open
  obtain ⟨_, _, g1, g8, glow, _⟩ := t
  have c1 : w.cell? ⟨q, 1, none⟩ = some (.slice a L.length c) := by rw [cell_of_row _ _ _ _ _ _ r1]; rfl
  obtain ⟨v', w', hap, o2, gr⟩ := append_S w 0 _ L x o1 (by omega) (Nat.zero_le _)
  have hq := lt_of_heap r1
  have r2 := (gr.old q hq n1).trans r1
  have f2 : w'.frozen? ⟨q, 1, none⟩ = false := frozen_of_row _ _ _ _ _ r2
  have c2' : w'.cell? ⟨q, 1, none⟩ = some (.slice a L.length c) := by rw [cell_of_row _ _ _ _ _ _ r2]; rfl
  have fin : Hid (∃ F', RtL (w'.setCell ⟨q, 1, none⟩ v') q h (L ++ [x]) F' ∧ Mov (Rb q (.slice a L.length c)) w (w'.setCell ⟨q, 1, none⟩ v') F') := by
    have hnew : ∀ k, v'.ownBlock = some k → (Value.slice a L.length c).ownBlock = some k ∨ w.heap.size ≤ k := fun k hk => by
      rcases gr.alt with e | ⟨e, _⟩
      · left; rw [← e]; exact hk
      · right; exact e k hk
    have hne : v'.ownBlock ≠ some q := fun e => by
      rcases hnew q e with e' | e'
      · exact n1 e'
      · omega
    have hm : Mov (Rb q (.slice a L.length c)) w (w'.setCell ⟨q, 1, none⟩ v') (Rb q v') := by
      refine ⟨(gr.keep.mono fun _ _ e => .inr e).trans (Keep.ofSet (S := fun k => k = q) w' q 1 v' rfl) fun _ _ e => .inl e, fun k hk => ?_⟩
      rcases hk with e | e
      · exact .inl (.inl e)
      · rcases hnew k e with e | e
        · exact .inl (.inr e)
        · exact .inr e
    refine ⟨Rb q v', ⟨⟨v', heap_setCell_same w' q 1 _ _ _ r2, o2.keep (Keep.ofSet (S := fun k => k = q) w' q 1 v' rfl) (fun k hk e => hne (e ▸ hk)), hne, rfl⟩, hsx, g1, g8, fun k hk => ?_, ?_⟩, hm⟩
    · rcases hm.new k hk with e | e
      · exact glow k e
      · omega
    · rw [List.length_append]; simp; omega
  obtain ⟨a', c', hv⟩ := o2.shape
  clear r1 r2 o1 o2 gr glow hsx hs n1
  subst hv
  generalize (svs (L ++ [x])).length = n' at *
  generalize L.length = n at *
  have c3 : ¬ (n : Int) ≥ 1048576 := by omega
  rw [show sv x = Value.string ⟨x.toArray⟩ from rfl]
  go_enter Tryz.func21, Tryz.ntmps21
  go_wp2_with (at_builtin; go_must (refine Lib.wpList_append_run _ rfl _ _ 24 24 rfl _ _ rfl rfl _ _ hap ?_); clear hap)
  go_ret
  exact ⟨rfl, fin.out⟩
end Go.Proofs.YticjokhfjkebpaaGreatDoor

namespace Go.Proofs.YticjokhfjkebpaaGreatDoor
open Go.RowKit
set_option maxRecDepth 100000 in
set_option maxHeartbeats 2000000 in
theorem rinside_any {w : World} {q h : Nat} {L : List (List UInt8)} {F : Nat → Prop} (t : RtL w q h L F) (b e : Int) :
    Calls Tryz.prog 108 #[.pointer (some ⟨q, 0, none⟩), .agg #[.int .i64 b, .int .i64 e]] w fun r w' => r = .returned (.bool (spB L.length b e)) ∧ Below w.heap.size w w' := by
  obtain ⟨w1, hw1⟩ : ∃ w1, w.alloc (.cells #[Value.int .i64 b, .int .i64 e] 35) = w1 := ⟨_, rfl⟩
  have b1 := (Below.refl w.heap.size w).alloc (Nat.le_refl _) (.cells #[Value.int .i64 b, .int .i64 e] 35)
  have r1 := heap_alloc_new w (.cells #[Value.int .i64 b, .int .i64 e] 35)
  rw [hw1] at b1 r1
  have s0 : w1.cell? ⟨w.heap.size, 0, none⟩ = some (.int .i64 b) := by rw [cell_of_row _ _ _ _ _ _ r1]; rfl
  have s1 : w1.cell? ⟨w.heap.size, 1, none⟩ = some (.int .i64 e) := by rw [cell_of_row _ _ _ _ _ _ r1]; rfl
  obtain ⟨a, c, r2, o1, n1, _, hA, _, _⟩ := (t.below b1).open
  have s2 : w1.cell? ⟨q, 1, none⟩ = some (.slice a L.length c) := by rw [cell_of_row _ _ _ _ _ _ r2]; rfl
  have B1 := hid b1
  obtain ⟨n, hn⟩ : ∃ n, L.length = n := ⟨_, rfl⟩
  rw [hn] at s2 ⊢
  obtain ⟨d, hc⟩ : ∃ c, spB n b e = c := ⟨_, rfl⟩
  rw [hc]
  unfold spB at hc
  have HC := hid hc
  clear t b1 r1 hc r2 o1 n1 hA
  have fin : Below w.heap.size w w1.drew := B1.out.drew
  by_cases h0 : 0 ≤ b
  · have y0 : decide (0 ≤ b) = true := decide_eq_true h0
    have y0' : decide (b ≥ 0) = true := decide_eq_true h0
    by_cases h1 : b ≤ e
    · have y1 : decide (b ≤ e) = true := decide_eq_true h1
      have c3 : decide (e ≤ (n : Int)) = d := by rw [← HC.out]; exact decide_eq_decide.2 ⟨fun x => ⟨h0, h1, x⟩, fun x => x.2.2⟩
      clear h0 h1
      go_enter Tryz.func108, Tryz.ntmps108
      go_wp2
      go_quiet (fail)
      go_wp2
      go_ret
      exact ⟨by rw [← c3]; rfl, ⟨B1.out.os, B1.out.tape, B1.out.output, B1.out.size, B1.out.block⟩⟩
    · have c3 : d = false := by rw [← HC.out]; exact decide_eq_false fun x => h1 x.2.1
      subst c3
      have y1 : decide (b ≤ e) = false := decide_eq_false h1
      clear h0 h1 HC
      go_enter Tryz.func108, Tryz.ntmps108
      go_wp2
      go_quiet (fail)
      go_wp2
      go_ret
      exact ⟨rfl, ⟨B1.out.os, B1.out.tape, B1.out.output, B1.out.size, B1.out.block⟩⟩
  · have c3 : d = false := by rw [← HC.out]; exact decide_eq_false fun x => h0 x.1
    subst c3
    have y0 : decide (0 ≤ b) = false := decide_eq_false h0
    clear h0 HC
    go_enter Tryz.func108, Tryz.ntmps108
    go_wp2
    go_quiet (fail)
    go_wp2
    go_ret
    exact ⟨rfl, ⟨B1.out.os, B1.out.tape, B1.out.output, B1.out.size, B1.out.block⟩⟩
end Go.Proofs.YticjokhfjkebpaaGreatDoor

namespace Go.Proofs.YticjokhfjkebpaaGreatDoor
open Go.RowKit
/-- T3: the hash of a complete subtree -/
def hashO (L : List (List UInt8)) (l i : Int) : List UInt8 × Int := if 0 ≤ l ∧ 0 ≤ i ∧ (i.toNat + 1) * 2 ^ l.toNat ≤ L.length then (Til.hs L l.toNat i.toNat, 0) else ([], 72)
theorem pow31 {l : Nat} (h : 30 < l) : 2147483648 ≤ 2 ^ l := by
  have : 2 ^ 31 ≤ 2 ^ l := Nat.pow_le_pow_right (by omega) h
  omega
theorem big_not {L : List (List UInt8)} (h20 : L.length ≤ 1048576) {l i : Int} (hb : l < 0 ∨ 30 < l ∨ i < 0 ∨ 1048576 < i) : ¬ (0 ≤ l ∧ 0 ≤ i ∧ (i.toNat + 1) * 2 ^ l.toNat ≤ L.length) := by
  rintro ⟨h1, h2, h3⟩
  have hp := Nat.two_pow_pos l.toNat
  have k1 : i.toNat + 1 ≤ (i.toNat + 1) * 2 ^ l.toNat := Nat.le_mul_of_pos_right _ hp
  have k2 : 2 ^ l.toNat ≤ (i.toNat + 1) * 2 ^ l.toNat := Nat.le_mul_of_pos_left _ (by omega)
  rcases hb with hb | hb | hb | hb
  · omega
  · have := pow31 (l := l.toNat) (by omega); omega
  · omega
  · omega
theorem At.sg {w : World} {x : Addr} {L : List (List UInt8)} (h : At w (some x) L) (b e : Nat) : At w (some (x.add b)) (Til.sg L b e) := (h.take e).drop b
end Go.Proofs.YticjokhfjkebpaaGreatDoor

namespace Go.Proofs.YticjokhfjkebpaaGreatDoor
open Go.RowKit
theorem At.map_sg {w : World} {a : Option Addr} {L : List (List UInt8)} (h : At w a L) {b e : Nat} (he : e ≤ L.length) : At w (a.map (·.add b)) (Til.sg L b e) := by
  by_cases hbe : b < e
  · obtain ⟨y, rfl⟩ := h.pos (by omega)
    exact h.sg b e
  · have : Til.sg L b e = [] := List.eq_nil_of_length_eq_zero (by rw [Til.sg_len he]; omega)
    rw [this]
    exact At.nil _ _
theorem s3_below {q g : Nat} {x y z : Value} {w w' : World} (h : w.cell? ⟨q, 1, none⟩ = some x ∧ w.cell? ⟨g, 0, none⟩ = some y ∧ w.cell? ⟨g, 1, none⟩ = some z) (hq : q < w.heap.size) (hg : g < w.heap.size) (hb : Below w.heap.size w w') : w'.cell? ⟨q, 1, none⟩ = some x ∧ w'.cell? ⟨g, 0, none⟩ = some y ∧ w'.cell? ⟨g, 1, none⟩ = some z :=
  ⟨(hb.cell (p := ⟨q, 1, none⟩) hq).trans h.1, (hb.cell (p := ⟨g, 0, none⟩) hg).trans h.2.1, (hb.cell (p := ⟨g, 1, none⟩) hg).trans h.2.2⟩
set_option maxRecDepth 100000 in
set_option maxHeartbeats 4000000 in
theorem rPart7_any {w : World} {q h : Nat} {L : List (List UInt8)} {F : Nat → Prop} (t : RtL w q h L F) (b e : Int) {x : List UInt8} {z : Int} (hx : Hid (tPartO L b e = (x, z))) :
    Calls Tryz.prog 62 #[.pointer (some ⟨q, 0, none⟩), .agg #[.int .i64 b, .int .i64 e]] w fun r w' => r = .returned (.tuple #[sv x, .int .i64 z]) ∧ Below w.heap.size w w' := by
  obtain ⟨w1, hw1⟩ : ∃ w1, w.alloc (.cells #[Value.int .i64 b, .int .i64 e] 35) = w1 := ⟨_, rfl⟩
  have b1 := (Below.refl w.heap.size w).alloc (Nat.le_refl _) (.cells #[Value.int .i64 b, .int .i64 e] 35)
  have r1 := heap_alloc_new w (.cells #[Value.int .i64 b, .int .i64 e] 35)
  rw [hw1] at b1 r1
  have c0 : w1.cell? ⟨w.heap.size, 0, none⟩ = some (.int .i64 b) := by rw [cell_of_row _ _ _ _ _ _ r1]; rfl
  have c1 : w1.cell? ⟨w.heap.size, 1, none⟩ = some (.int .i64 e) := by rw [cell_of_row _ _ _ _ _ _ r1]; rfl
  have T1 := hid (t.below b1)
  have i1 := rinside_any T1.out b e
  have B1 := hid b1
  have hlt : w.heap.size < w1.heap.size := lt_of_heap r1
  have hxo := hx.out
  unfold tPartO at hxo
  obtain ⟨d, hc⟩ : ∃ c, spB L.length b e = c := ⟨_, rfl⟩
  rw [hc] at i1 hxo
  have n20 := t.n20
  have hHs := t.hs
  clear t b1 r1 hx
  cases d
  · rw [if_neg (by simp)] at hxo
    injection hxo with h1 h2
    subst h1 h2
    go_enter Tryz.func62, Tryz.ntmps62
    go_wp2_with (go_at_call 108; refine i1.mono ?_; rintro r w2 ⟨rfl, hw2⟩)
    go_ret2
    exact ⟨rfl, B1.out.trans (hw2.mono B1.out.size)⟩
  · rw [if_pos rfl] at hxo
    injection hxo with h1 h2
    subst h2
    unfold spB at hc
    have hc := of_decide_eq_true hc
    obtain ⟨b', rfl⟩ : ∃ b' : Nat, b = (b' : Int) := ⟨b.toNat, by omega⟩
    obtain ⟨e', rfl⟩ : ∃ e' : Nat, e = (e' : Int) := ⟨e.toNat, by omega⟩
    rw [Int.toNat_natCast, Int.toNat_natCast] at h1
    have hbe : b' ≤ e' := by omega
    have hen : e' ≤ L.length := by omega
    have m0 : (0 : Int) ≤ (b' : Int) := by omega
    have m1 : (b' : Int) ≤ (e' : Int) := by omega
    have hlen := Til.sg_len (L := L) (b := b') hen
    clear hc
    go_enter Tryz.func62, Tryz.ntmps62
    go_wp2_with (go_at_call 108; fail)
    refine i1.mono ?_
    rintro r w2 ⟨rfl, hw2⟩
    have d0 := (hw2.cell (p := ⟨w.heap.size, 0, none⟩) hlt).trans c0
    have d1 := (hw2.cell (p := ⟨w.heap.size, 1, none⟩) hlt).trans c1
    obtain ⟨a, c, r2, _, _, _, hA, hLc, hc9⟩ := (T1.out.below hw2).open
    have d2 : w2.cell? ⟨q, 1, none⟩ = some (.slice a L.length c) := by rw [cell_of_row _ _ _ _ _ _ r2]; rfl
    have B2 := hid (B1.out.trans (hw2.mono B1.out.size))
    have m2 : (e' : Int) ≤ (c : Int) := by omega
    have S0 : w2.cell? ⟨q, 1, none⟩ = some (.slice a L.length c) ∧ w2.cell? ⟨w.heap.size, 0, none⟩ = some (.int .i64 (b' : Int)) ∧ w2.cell? ⟨w.heap.size, 1, none⟩ = some (.int .i64 (e' : Int)) := ⟨d2, d0, d1⟩
    have hqlt := lt_of_heap r2
    have hglt : w.heap.size < w2.heap.size := Nat.lt_of_lt_of_le hlt hw2.size
    have hd : Below w2.heap.size w2 w2.drew := (Below.refl _ _).drew
    by_cases hcb : c = b'
    · have i3 := hash7_any _ (Til.sg L b' e') a 0 w2.drew (Nat.le_refl _) (by omega) (by omega) (by omega) (Til.sg_hs hHs _ _) (by
        have : Til.sg L b' e' = [] := List.eq_nil_of_length_eq_zero (by omega)
        rw [this]; exact At.nil _ _)
      rw [hlen, h1] at i3
      clear r2 hA h1 hlen T1 i1 hHs d0 d1 d2 c0 c1 B1 hw2
      generalize L.length = n at *
      obtain rfl : b' = c := hcb.symm
      go_wp2
      go_region_held3 (fun w' => w'.cell? ⟨q, 1, none⟩ = some (.slice a n b') ∧ w'.cell? ⟨w.heap.size, 0, none⟩ = some (.int .i64 (b' : Int)) ∧ w'.cell? ⟨w.heap.size, 1, none⟩ = some (.int .i64 (e' : Int))) (first | exact S0 | exact S3) ((go_at_call 109; refine i3.mono ?_; rintro r w3 ⟨rfl, hw3⟩; have S3 := s3_below (w := w2.drew) S0 hqlt hglt hw3))
      all_goals go_wp2
      all_goals go_ret2
      all_goals exact ⟨rfl, B2.out.trans ((hd.trans (hw3.mono hd.size)).mono B2.out.size)⟩
    · have i3 := hash7_any _ (Til.sg L b' e') (a.map (·.add b')) (c - b') w2.drew (Nat.le_refl _) (by omega) (by omega) (by omega) (Til.sg_hs hHs _ _) ((hA.map_sg hen).below hd (Nat.le_refl _))
      rw [hlen, h1] at i3
      clear r2 hA h1 hlen T1 i1 hHs d0 d1 d2 c0 c1 B1 hw2
      generalize L.length = n at *
      go_wp2
      go_region_held3 (fun w' => w'.cell? ⟨q, 1, none⟩ = some (.slice a n c) ∧ w'.cell? ⟨w.heap.size, 0, none⟩ = some (.int .i64 (b' : Int)) ∧ w'.cell? ⟨w.heap.size, 1, none⟩ = some (.int .i64 (e' : Int))) (first | exact S0 | exact S3) ((go_at_call 109; refine i3.mono ?_; rintro r w3 ⟨rfl, hw3⟩; have S3 := s3_below (w := w2.drew) S0 hqlt hglt hw3))
      all_goals go_wp2
      all_goals go_ret2
      all_goals exact ⟨rfl, B2.out.trans ((hd.trans (hw3.mono hd.size)).mono B2.out.size)⟩
end Go.Proofs.YticjokhfjkebpaaGreatDoor
