import Derived.Test.YtnnohacciikofaaDoorCFL1
import Derived.Test.YtnnohacciikofaaDoorCO20
import Derived.Test.YtnnohacciikofaaDoorCO6
import Derived.Test.YtnnohacciikofaaDoorCO51
namespace Go.Proofs.YtnnohacciikofaaDoor
open Go.RowKit
/-- F5 -/
def rootO (b e : Int) (H : List (List UInt8)) : List UInt8 × Int := if rgt b e H.length = true ∧ b = 0 then (if hsB H = true then (Cut.fold H, 0) else ([], 52)) else ([], 50)
theorem svE5 : sv [] = .string ⟨#[]⟩ := rfl
set_option maxRecDepth 100000 in
set_option maxHeartbeats 4000000 in
theorem RootOf5_any (b e : Int) (H : List (List UInt8)) (a : Option Addr) (k : Nat) (w : World) (hl : H.length ≤ 9223372036854775807) (hA : At w a H) (Z : Tb w) :
    Calls Tryd.prog 14 #[rng b e (.slice a H.length k)] w fun r w' => r = .returned (.tuple #[sv (rootO b e H).1, .int .i64 (rootO b e H).2]) ∧ Below w.heap.size w w' := by
  obtain ⟨n, hm⟩ : ∃ n, Hid (H.length = n) := ⟨_, rfl⟩
  rw [hm.out] at hl ⊢
  have R0 := hid (Rg.new w b e (.slice a n k))
  have B0 := hid ((Below.refl w.heap.size w).alloc (Nat.le_refl _) (.cells #[Value.int .i64 b, .int .i64 e, .slice a n k] 28))
  have Z0 := hid (Z.below B0.out Z.lt)
  have A0 := hid (hA.below B0.out (Nat.le_refl _))
  have i1 := isRight_any b e a n k _ Z0.out
  have hT := Z.lt
  obtain ⟨O, hO⟩ : ∃ O, Hid (rootO b e H = O) := ⟨_, rfl⟩
  rw [hO.out]
  have hN : Hid (n ≤ 8796093021952 ∨ rgt b e n = false) := by
    unfold Hid
    cases h : rgt b e n with
    | false => exact .inr rfl
    | true =>
      unfold rgt at h
      simp only [decide_eq_true_eq] at h
      have := Cut.cut_len (a := b.toNat) (b := e.toNat) (by omega) (by omega)
      left; omega
  clear hA Z
  cases hr : rgt b e n with
  | false =>
    rw [hr] at i1
    have e0 := hid (show O = ([], 50) by rw [← hO.out]; unfold rootO; rw [hm.out, if_neg (by rw [hr]; simp)])
    rw [e0.out]
    clear hr hO A0 hN
    go_enter Tryd.func14, Tryd.ntmps14
    go_wp2_with (go_at_call 28; refine i1.mono ?_; rintro r w1 ⟨rfl, hw1⟩)
    go_ret2
    exact ⟨rfl, B0.out.trans (hw1.mono B0.out.size)⟩
  | true =>
    rw [hr] at i1
    have hn : n ≤ 8796093021952 := by
      rcases hN.out with h | h
      · exact h
      · rw [hr] at h; cases h
    by_cases hb : b = 0
    · subst hb
      cases hs : hsB H with
      | false =>
        have e0 := hid (show O = ([], 52) by rw [← hO.out]; unfold rootO; rw [hm.out, if_pos ⟨hr, rfl⟩, if_neg (by rw [hs]; simp)])
        rw [e0.out]
        have i2 := fun w' hA => areHashes_is H false hs a k w' (by rw [hm.out]; exact hl) hA
        rw [hm.out] at i2
        clear hr hO hN hs
        go_enter Tryd.func14, Tryd.ntmps14
        go_wp2_with (first
          | (go_at_call 28; refine i1.mono ?_; rintro r w1 ⟨rfl, hw1⟩; have R1 := R0.out.below hw1; have p0 := R1.c0; have p2 := R1.c2; have A1 := A0.out.below hw1 (Nat.le_refl _))
          | (go_at_call 26; refine (i2 _ A1).mono ?_; rintro r w2 ⟨rfl, rfl⟩))
        go_ret2
        exact ⟨rfl, B0.out.trans (hw1.mono B0.out.size)⟩
      | true =>
        have e0 := hid (show O = (Cut.fold H, 0) by rw [← hO.out]; unfold rootO; rw [hm.out, if_pos ⟨hr, rfl⟩, if_pos hs])
        rw [e0.out]
        have i2 := fun w' hA => areHashes_is H true hs a k w' (by rw [hm.out]; exact hl) hA
        have i3 := fun w' hA T => froot_any H a k w' (by rw [hm.out]; exact hn) hA T
        rw [hm.out] at i2 i3
        clear hr hO hN hs hn e0
        generalize Cut.fold H = F at *
        go_enter Tryd.func14, Tryd.ntmps14
        go_wp2_with (first
          | (go_at_call 28; refine i1.mono ?_; rintro r w1 ⟨rfl, hw1⟩; have R1 := R0.out.below hw1; have p0 := R1.c0; have p2 := R1.c2; have A1 := A0.out.below hw1 (Nat.le_refl _); have T1 := (Z0.out.below hw1 Z0.out.lt).t)
          | (go_at_call 26; refine (i2 _ A1).mono ?_; rintro r w2 ⟨rfl, rfl⟩)
          | (go_at_call 35; refine (i3 _ A1 T1).mono ?_; rintro r w3 ⟨rfl, hw3⟩))
        go_ret2
        exact ⟨rfl, (B0.out.trans (hw1.mono B0.out.size)).trans (hw3.mono (Nat.le_trans B0.out.size hw1.size))⟩
    · have e0 := hid (show O = ([], 50) by rw [← hO.out]; unfold rootO; rw [if_neg (fun h => hb h.2)])
      rw [e0.out]
      have d1 : (b != 0) = true := by simpa using hb
      clear hr hO A0 hN hn
      go_enter Tryd.func14, Tryd.ntmps14
      go_wp2_with (go_at_call 28; refine i1.mono ?_; rintro r w1 ⟨rfl, hw1⟩; have R1 := R0.out.below hw1; have p0 := R1.c0)
      go_ret2
      exact ⟨rfl, B0.out.trans (hw1.mono B0.out.size)⟩
end Go.Proofs.YtnnohacciikofaaDoor

namespace Go.Proofs.YtnnohacciikofaaDoor
open Go.RowKit
def spare : List UInt8 := [115, 112, 97, 114, 101]
theorem spare_sv : sv spare = .string ⟨#[115, 112, 97, 114, 101]⟩ := rfl
def behind (j : Nat) : List (List UInt8) := List.replicate j spare ++ List.replicate (8 - j) []
theorem behind_len (j : Nat) (h : j ≤ 8) : (behind j).length = 8 := by simp [behind]; omega
theorem behind_set : ∀ j : Fin 8, (behind j.val).set j.val spare = behind (j.val + 1) := by decide
theorem behind_get : ∀ j : Fin 8, (behind 8)[j.val]? = some spare := by decide
theorem behind_step (ps : List (List UInt8)) (j : Nat) (h : j < 8) : (ps ++ behind j).set (ps.length + j) spare = ps ++ behind (j + 1) := by
  rw [List.set_append_right _ _ (by omega), show ps.length + j - ps.length = j from by omega, behind_set ⟨j, h⟩]
set_option maxRecDepth 100000 in
set_option maxHeartbeats 1000000 in
theorem kept_yes (ps : List (List UInt8)) (H : Nat) (a : Option Addr) (cap : Nat) (w : World) (hn : ps.length ≤ 8796093021952) (hR : Row w H (ps ++ behind 8)) (hA : At w a ps) :
    Calls Tryd.prog 61 #[.slice (some ⟨H, 0, none⟩) (ps.length + 8) (ps.length + 8), .slice a ps.length cap] w fun e w' => e = .returned (.bool true) ∧ Below w.heap.size w w' ∧ w'.heap = w.heap := by
  have hA1 : At w (some ⟨H, 0, none⟩) ps := by
    have := hR.at.take ps.length
    rwa [List.take_left] at this
  have cS := same_yes ps (some ⟨H, 0, none⟩) a (ps.length + 8) cap w hA1 hA (by omega)
  have HR := hid hR
  obtain ⟨n, hpn⟩ : ∃ n, ps.length = n := ⟨_, rfl⟩
  rw [hpn] at cS hn ⊢
  clear hA hA1 hR
  have hnn : (n : Int) ≤ (n : Int) + 8 := by omega
  go_enter Tryd.func61, Tryd.ntmps61
  go_wp2
  go_loopw [5] (fun i w' => ∃ j : Nat, j ≤ 8 ∧ i = .int .i64 ((n : Int) + (j : Int)) ∧ w' = w) (fun i _ => n + 8 - (intOf i).toNat)
  case atStart => exact ⟨0, by omega, by simp, rfl⟩
  case round =>
    obtain ⟨j, hj, rfl, rfl⟩ := hrel
    by_cases hlt : j < 8
    · have b0 : (n : Int) + (j : Int) < (n : Int) + 8 := by omega
      have b1 : (0 : Int) ≤ (n : Int) + (j : Int) := by omega
      have t1 : ((n : Int) + (j : Int)).toNat = n + j := by omega
      have cp := HR.out.cell (j := n + j) (p := spare) (by
        rw [List.getElem?_append_right (by omega), hpn, show n + j - n = j from by omega]
        exact behind_get ⟨j, hlt⟩)
      rw [spare_sv] at cp
      go_wp2
      exact ⟨⟨j + 1, by omega, by rw [show (n : Int) + (j : Int) + 1 = (n : Int) + ((j + 1 : Nat) : Int) from by omega], trivial⟩, by simp [intOf]; omega⟩
    · obtain rfl : j = 8 := by omega
      have b0 : ¬ (n : Int) + ((8 : Nat) : Int) < (n : Int) + 8 := by omega
      go_wp2_with (go_at_call 15; refine cS.mono ?_; rintro e w9 ⟨rfl, hw9, hh9⟩)
      go_ret
      exact ⟨rfl, hw9, hh9⟩
end Go.Proofs.YtnnohacciikofaaDoor

namespace Go.Proofs.YtnnohacciikofaaDoor
open Go.RowKit
/-- what stands where there is no error -/
def sel (c x : Int) : Int := if c = 0 then x else 0
def selL (c : Int) (H : List (List UInt8)) : List (List UInt8) := if c = 0 then H else []
theorem RgP.some5 {w w' : World} {c b e : Int} {H : List (List UInt8)} {r : Ending} (h : RgP w c b e H r w') : ∃ v, r = .returned (.tuple #[rng (sel c b) (sel c e) v, .int .i64 c]) ∧ Own w' w.heap.size v (svs (selL c H)) ∧ Below w.heap.size w w' := by
  obtain ⟨hb, h⟩ := h
  unfold sel selL
  by_cases hc : c = 0
  · subst hc
    rw [if_pos rfl] at h
    obtain ⟨v, h1, h2⟩ := h
    simp only [if_pos]
    exact ⟨v, h1, h2, hb⟩
  · rw [if_neg hc] at h
    simp only [if_neg hc]
    exact ⟨.slice none 0 0, h, Own.nil _ _, hb⟩
set_option maxRecDepth 100000 in
set_option maxHeartbeats 2000000 in
theorem sameRange_yes (b e : Int) (H : List (List UInt8)) (a1 a2 : Option Addr) (k1 k2 : Nat) (w : World) (hl : H.length ≤ 9223372036854775807) (h1 : At w a1 H) (h2 : At w a2 H) :
    Calls Tryd.prog 10 #[rng b e (.slice a1 H.length k1), rng b e (.slice a2 H.length k2)] w fun r w' => r = .returned (.bool true) ∧ Below w.heap.size w w' := by
  obtain ⟨w0, hw0⟩ : ∃ w0, (w.alloc (.cells #[Value.int .i64 b, .int .i64 e, .slice a1 H.length k1] 28)).alloc (.cells #[Value.int .i64 b, .int .i64 e, .slice a2 H.length k2] 28) = w0 := ⟨_, rfl⟩
  have z1 := size_alloc w (.cells #[Value.int .i64 b, .int .i64 e, .slice a1 H.length k1] 28)
  have r1 := heap_alloc_new w (.cells #[Value.int .i64 b, .int .i64 e, .slice a1 H.length k1] 28)
  have bb := (Below.refl (w.heap.size + 1) (w.alloc (.cells #[Value.int .i64 b, .int .i64 e, .slice a1 H.length k1] 28))).alloc (by omega) (.cells #[Value.int .i64 b, .int .i64 e, .slice a2 H.length k2] 28)
  have r2 := heap_alloc_at (w.alloc (.cells #[Value.int .i64 b, .int .i64 e, .slice a1 H.length k1] 28)) (.cells #[Value.int .i64 b, .int .i64 e, .slice a2 H.length k2] 28) (w.heap.size + 1) z1
  have b1 := (Below.refl w.heap.size w).alloc (Nat.le_refl _) (.cells #[Value.int .i64 b, .int .i64 e, .slice a1 H.length k1] 28)
  have b2 := b1.trans (bb.mono (show w.heap.size ≤ w.heap.size + 1 by omega))
  have r1' := (bb.block w.heap.size (by omega)).trans r1
  rw [hw0] at r1' r2 b2
  have RA : Rg w0 w.heap.size b e (.slice a1 H.length k1) := r1'
  have RB : Rg w0 (w.heap.size + 1) b e (.slice a2 H.length k2) := r2
  have HB := hid b2
  have i1 := same_yes H a1 a2 k1 k2 w0 (h1.below b2 (Nat.le_refl _)) (h2.below b2 (Nat.le_refl _)) hl
  have HRA := hid RA
  have HRB := hid RB
  have y1 : (b == b) = true := by simp
  have y2 : (e == e) = true := by simp
  have HW0 := hid hw0
  clear z1 r1 r2 b1 b2 bb r1' h1 h2 hw0 RA RB
  generalize H.length = n at *
  go_enter Tryd.func10, Tryd.ntmps10
  go_wp2_with (go_at_call 15; fail)
  rw [HW0.out]
  refine i1.mono ?_
  rintro r w1 ⟨rfl, hw1, _⟩
  have RA1 := HRA.out.below hw1
  have RB1 := HRB.out.below hw1
  have p0 := RA1.c0
  have p1 := RA1.c1
  have q0 := RB1.c0
  have q1 := RB1.c1
  go_wp2
  go_ret
  exact ⟨rfl, HB.out.trans (hw1.mono HB.out.size)⟩
/-- the first k places turned round -/
def tv (ps X : List (List UInt8)) (k : Nat) : List (List UInt8) := ps.reverse.take k ++ X.drop k
theorem tv_len {ps X : List (List UInt8)} {k : Nat} (h : X.length = ps.length) (hk : k ≤ ps.length) : (tv ps X k).length = X.length := by
  unfold tv; rw [List.length_append, List.length_take, List.length_drop, List.length_reverse]; omega
theorem tv_step {ps X Y : List (List UInt8)} {k : Nat} {p : List UInt8} (h : X.length = ps.length) (hk : k < ps.length) (hp : ps[ps.length - 1 - k]? = some p) : (tv ps X k ++ Y).set k p = tv ps X (k + 1) ++ Y := by
  have hr : ps.reverse[k]? = some p := by rw [List.getElem?_reverse hk]; exact hp
  have hl : (ps.reverse.take k).length = k := by rw [List.length_take, List.length_reverse]; omega
  have hd : X.drop k = X[k]'(by omega) :: X.drop (k + 1) := List.drop_eq_getElem_cons _
  unfold tv
  rw [hd, List.append_assoc, List.set_append, if_neg (by omega), hl, Nat.sub_self, List.cons_append, List.set_cons_zero, List.take_add_one, hr]
  simp
theorem tv_all {ps X : List (List UInt8)} (h : X.length = ps.length) : tv ps X ps.length = ps.reverse := by
  unfold tv
  rw [List.drop_eq_nil_of_le (by omega), List.append_nil, List.take_of_length_le (by rw [List.length_reverse]; exact Nat.le_refl _)]
theorem At.but {w w' : World} {a : Option Addr} {l : List (List UInt8)} {g : Nat} (h : At w a l) (hb : But g w w') (hne : ∀ x, a = some x → x.block ≠ g) : At w' a l := fun j p hp => by
  obtain ⟨x, rfl, hx, hc⟩ := h j p hp
  refine ⟨x, rfl, Nat.lt_of_lt_of_le hx hb.size, ?_⟩
  rw [← hc]
  exact World.cell?_of_block (w := w) (by rw [addr_block]; exact hb.block x.block hx (hne x rfl))
theorem setCell_but5 (w : World) (g k : Nat) (v : Value) : But g w (w.setCell ⟨g, k, none⟩ v) :=
  ⟨rfl, rfl, rfl, by simp [World.setCell], fun j _ hj => Below.heap_setCell w _ v j hj⟩
end Go.Proofs.YtnnohacciikofaaDoor

namespace Go.Proofs.YtnnohacciikofaaDoor
open Go.RowKit
/-- the slice v of n elements of m cells each owns the cells cs in a row of its own -/
def OwnM (m : Nat) (w : World) (v : Value) (n : Nat) (cs : List Value) : Prop :=
  (v = .slice none 0 0 ∧ n = 0 ∧ cs = []) ∨
  ∃ g cap, v = .slice (some ⟨g, 0, none⟩) n cap ∧ n ≤ cap ∧ cap ≤ maxLen ∧ cs.length = n * m ∧ w.rangeAt g 0 cs ∧ w.there g 0 (cap * m) ∧ g < w.heap.size
theorem OwnM.nil (m : Nat) (w : World) : OwnM m w (.slice none 0 0) 0 [] := .inl ⟨rfl, rfl, rfl⟩
theorem OwnM.len {m : Nat} {w : World} {v : Value} {n : Nat} {cs : List Value} (h : OwnM m w v n cs) : cs.length = n * m := by
  rcases h with ⟨_, rfl, rfl⟩ | ⟨_, _, _, _, _, h, _⟩
  · simp
  · exact h
theorem OwnM.lt {m : Nat} {w : World} {v : Value} {n : Nat} {cs : List Value} (h : OwnM m w v n cs) : ∀ k, v.ownBlock = some k → k < w.heap.size := by
  rcases h with ⟨rfl, _⟩ | ⟨g, _, rfl, _, _, _, _, _, h⟩
  · intro k hk; cases hk
  · intro k hk; cases hk; exact h
theorem OwnM.kept {m : Nat} {w w' : World} {v : Value} {n : Nat} {cs : List Value} (h : OwnM m w v n cs) (hs : w.heap.size ≤ w'.heap.size) (hb : ∀ g, v.ownBlock = some g → w'.heap[g]? = w.heap[g]?) : OwnM m w' v n cs := by
  rcases h with h | ⟨g, cap, rfl, h2, h3, h0, h4, h5, h6⟩
  · exact .inl h
  · exact .inr ⟨g, cap, rfl, h2, h3, h0, rangeAt_heap h4 (hb g rfl), there_heap h5 (hb g rfl), by omega⟩
theorem OwnM.below {m : Nat} {w w' : World} {v : Value} {n : Nat} {cs : List Value} (h : OwnM m w v n cs) (hb : Below w.heap.size w w') : OwnM m w' v n cs :=
  h.kept hb.size fun g hg => hb.block g (h.lt g hg)
theorem OwnM.drew {m : Nat} {w : World} {v : Value} {n : Nat} {cs : List Value} (h : OwnM m w v n cs) : OwnM m w.drew v n cs := h
theorem OwnM.drewN {m : Nat} {w : World} {v : Value} {n : Nat} {cs : List Value} (h : OwnM m w v n cs) (k : Nat) : OwnM m (w.drewN k) v n cs := h
theorem OwnM.alloc {m : Nat} {w : World} {v : Value} {n : Nat} {cs : List Value} (h : OwnM m w v n cs) (o : Obj) : OwnM m (w.alloc o) v n cs := h.below ((Below.refl _ _).alloc (Nat.le_refl _) _)
theorem OwnM.keep {m : Nat} {S : Nat → Prop} {w w' : World} {v : Value} {n : Nat} {cs : List Value} (h : OwnM m w v n cs) (hb : Keep S w w') (hne : ∀ k, v.ownBlock = some k → ¬ S k) : OwnM m w' v n cs :=
  h.kept hb.size fun g hg => hb.block g (h.lt g hg) (hne g hg)
theorem OwnM.shape {m : Nat} {w : World} {v : Value} {n : Nat} {cs : List Value} (h : OwnM m w v n cs) : ∃ a cap, v = .slice a n cap ∧ n ≤ cap ∧ cap ≤ 9223372036854775807 := by
  rcases h with ⟨rfl, rfl, _⟩ | ⟨g, cap, rfl, h2, h3, _⟩
  · exact ⟨none, 0, rfl, Nat.le_refl _, by omega⟩
  · exact ⟨_, cap, rfl, h2, by simp only [maxLen] at h3; omega⟩
/-- a cell of it -/
theorem OwnM.cell {m : Nat} {w : World} {v : Value} {n : Nat} {cs : List Value} (h : OwnM m w v n cs) {j : Nat} {u : Value} (hu : cs[j]? = some u) : ∃ g cap, v = .slice (some ⟨g, 0, none⟩) n cap ∧ w.cell? ⟨g, j, none⟩ = some u ∧ g < w.heap.size := by
  rcases h with ⟨_, _, rfl⟩ | ⟨g, cap, rfl, _, _, _, h4, _, h6⟩
  · simp at hu
  · refine ⟨g, cap, rfl, ?_, h6⟩
    have := h4 j u hu
    rwa [Nat.zero_add] at this
/-- a beginning of it -/
theorem OwnM.cut {m : Nat} {w : World} {g n c : Nat} {cs : List Value} (h : OwnM m w (.slice (some ⟨g, 0, none⟩) n c) n cs) {k : Nat} (hk : k ≤ n) : OwnM m w (.slice (some ⟨g, 0, none⟩) k c) k (cs.take (k * m)) := by
  rcases h with ⟨h, _⟩ | ⟨g', cap', h, h2, h3, h0, h4, h5, h6⟩
  · cases h
  · injection h with e1 e2 e3
    injection e1 with e1
    injection e1 with e1
    subst e1 e3
    refine .inr ⟨g, c, rfl, by omega, h3, ?_, fun j v hv => h4 j v ?_, h5, h6⟩
    · rw [List.length_take, h0]
      exact Nat.min_eq_left (Nat.mul_le_mul_right _ hk)
    · rw [List.getElem?_take] at hv
      split at hv
      · exact hv
      · cases hv
/-- APPEND onto it, from whatever source -/
theorem run_append_M {P : Program} {m : Nat} (w : World) (t tx ty e : TypeId) (i : TypeInfo) (z : Value) (ht : P.underlying t = some (.slice e)) (hi : P.info? e = some i) (hz : i.zero = some z)
    (hsize : i.size = m) (hzs : z.cells.size = m) (v : Value) (n0 : Nat) (cs : List Value) (hown : OwnM m w v n0 cs) (x : Value) (n : Nat) (news : List Value) (hs : Src P m tx x n news w)
    (hbytes : (n0 + n) * i.bytes ≤ 140737488355328) (h63 : n0 + n ≤ maxLen) (hpos : v = .slice none 0 0 → 0 < n) :
    ∃ v' w', (Builtin.append_ #[t, tx] ty #[v, x]).run P w = .ok v' w' ∧ OwnM m w' v' (n0 + n) (cs ++ news) ∧ Grow w w' v v' := by
  have hn : news.length = n * m := hs.newsLen
  have hcl := hown.len
  have h63' : n0 + n ≤ 9223372036854775807 := by simp only [maxLen] at h63; omega
  have grow : ∀ (b : Option Addr) (old : Nat), old < n0 + n → v = .slice b n0 old → (Builtin.firstCells m n0 (.slice b n0 old)).run P w.drew = .ok cs.toArray w.drew →
      ∃ v' w', (Builtin.append_ #[t, tx] ty #[v, x]).run P w = .ok v' w' ∧ OwnM m w' v' (n0 + n) (cs ++ news) ∧ Grow w w' v v' := by
    intro b old ho hv hold
    have hr := run_append_grow_src (P := P) w t tx ty e i z ht hi hz b n0 old cs (by rw [hsize]; exact hold) x n news (by rw [hsize]; exact hs) ho (by omega) (growslice_fits ho hbytes)
    have hge := grownCap_ge w (n0 + n) old e
    have hcm : grownCap w (n0 + n) old e ≤ maxLen := grownCap_le_maxLen w (n0 + n) old e h63
    have hnew : (w.drew.alloc (.cells ((cs ++ news).toArray ++ Builtin.zeroCells z.cells (grownCap w (n0 + n) old e - (n0 + n))) e)).heap[w.heap.size]? = some (.cells ((cs ++ news).toArray ++ Builtin.zeroCells z.cells (grownCap w (n0 + n) old e - (n0 + n))) e (0, 0)) := heap_alloc_new w.drew _
    refine ⟨.slice (some ⟨w.heap.size, 0, none⟩) (n0 + n) (grownCap w (n0 + n) old e), w.drew.alloc (.cells ((cs ++ news).toArray ++ Builtin.zeroCells z.cells (grownCap w (n0 + n) old e - (n0 + n))) e), by rw [hv]; exact hr, .inr ⟨w.heap.size, grownCap w (n0 + n) old e, rfl, hge, hcm, ?_, ?_, ?_, ?_⟩, ⟨rfl, rfl, rfl, by rw [size_alloc]; exact Nat.le_succ w.heap.size, fun k hk _ => Below.heap_alloc w.drew _ k hk, .inr ⟨fun k hk => ?_, fun k hk => Below.heap_alloc w.drew _ k hk⟩⟩⟩
    · rw [List.length_append, hn, hcl, Nat.add_mul]
    · intro j u hj
      rw [cell_of_row _ _ _ _ _ _ hnew, Nat.zero_add]
      have hj' : j < (cs ++ news).length := (List.getElem?_eq_some_iff.1 hj).1
      rw [Array.getElem?_append_left (by simpa using hj')]
      simpa using hj
    · refine there_of_row hnew 0 _ ?_
      simp only [Array.size_append, List.size_toArray, size_zeroCells, hzs, List.length_append, hn, hcl]
      rw [← Nat.add_mul, ← Nat.add_mul]
      exact Nat.le_of_eq (by rw [Nat.zero_add]; congr 1; omega)
    · rw [size_alloc]; exact Nat.lt_succ_self _
    · have hk : some w.heap.size = some k := hk
      injection hk with hk
      omega
  rcases hown with ⟨rfl, rfl, rfl⟩ | ⟨g, cap, rfl, h2, h3, h0, h4, h5, h6⟩
  · exact grow none 0 (by have := hpos rfl; omega) rfl (run_firstCells_none w.drew m 0 0 0)
  · by_cases hroom : n0 + n ≤ cap
    · have hle : n0 * m + n * m ≤ cap * m := by rw [← Nat.add_mul]; exact Nat.mul_le_mul_right _ hroom
      have hr := run_append_room_src (P := P) w t tx ty e i ht hi g 0 n0 cap x n news (by rw [hsize]; exact hs) hroom
        (fun j hj => by rw [hsize]; exact by have := (h5 (n0 * m + j) (by omega)).1; simpa [Nat.add_assoc] using this)
        (fun j hj => by rw [hsize]; exact by have := (h5 (n0 * m + j) (by omega)).2; simpa [Nat.add_assoc] using this)
      rw [hsize, Nat.zero_add] at hr
      have ht' : w.there g (n0 * m) news.length := fun j hj => by have := h5 (n0 * m + j) (by omega); simpa using this
      refine ⟨_, _, hr, .inr ⟨g, cap, rfl, hroom, h3, ?_, ?_, World.there_setCells h5 _ _ _, ?_⟩, ?_⟩
      · rw [List.length_append, hn, h0, Nat.add_mul]
      · intro j u hj
        by_cases hjl : j < cs.length
        · rw [List.getElem?_append_left hjl] at hj
          exact World.rangeAt_setCells_apart h4 g (n0 * m) news (.inr (.inl (by omega))) j u hj
        · rw [List.getElem?_append_right (by omega)] at hj
          have := World.rangeAt_setCells_same w g (n0 * m) news ht' (j - cs.length) u hj
          rwa [show n0 * m + (j - cs.length) = 0 + j from by omega] at this
      · have := (But.setCells news (n0 * m) (But.refl g w)).size; omega
      · have hb := But.setCells news (n0 * m) (But.refl g w)
        exact ⟨hb.os, hb.tape, hb.output, hb.size, fun k hk hne => hb.block k hk (fun e => hne (by rw [e]; rfl)), .inl rfl⟩
    · refine grow (some ⟨g, 0, none⟩) cap (by omega) rfl ?_
      exact run_firstCells_some w.drew m n0 ⟨g, 0, none⟩ n0 cap cs h0 (fun j u hj => by rw [Addr.add_mid]; exact h4 j u hj)
/-- append of one element that lies in a row of its own -/
theorem append_oneM {m : Nat} (t e : TypeId) (z : Value) (by_ : Nat) (hb64 : by_ ≤ 64) (hu : Tryd.prog.underlying t = some (.slice e)) (hinfo : (Tryd.prog.info? e).map (fun i => (i.zero, i.size, i.bytes)) = some (some z, m, by_)) (hzs : z.cells.size = m)
    (w : World) (v : Value) (n0 : Nat) (cs : List Value) (xs : List Value) (hm : xs.length = m) (h1 : ∀ u ∈ xs, u.oneCell' = true) (hown : OwnM m w v n0 cs) (hlen : n0 ≤ 2000000) :
    ∃ v' w', (Builtin.append_ #[t, t] t #[v, .slice (some ⟨w.heap.size, 0, none⟩) 1 1]).run Tryd.prog (w.alloc (.cells xs.toArray e)) = .ok v' w' ∧ OwnM m w' v' (n0 + 1) (cs ++ xs) ∧ Grow w w' v v' := by
  obtain ⟨i0, hi, hz0, hz1, hz2⟩ := info_parts hinfo
  have hsrc : Src Tryd.prog m t (.slice (some ⟨w.heap.size, 0, none⟩) 1 1) 1 xs (w.alloc (.cells xs.toArray e)) :=
    Src.ofSlice _ hu ⟨w.heap.size, 0, none⟩ 1 1 xs (by rw [hm, Nat.one_mul]) (fun j u hj => by
      rw [Addr.add_mid, cell_of_row _ _ _ _ _ _ (heap_alloc_new w _), Nat.zero_add]; simpa using hj) h1
  obtain ⟨v', w', a1, a2, a3⟩ := run_append_M (P := Tryd.prog) (w.alloc (.cells xs.toArray e)) t t t e i0 z hu hi hz0 hz1 hzs v n0 cs (hown.alloc _) _ 1 xs hsrc
    (by rw [hz2]; exact Nat.le_trans (Nat.mul_le_mul (show n0 + 1 ≤ 2000001 by omega) hb64) (by decide)) (by rw [maxLen]; omega) (fun _ => by omega)
  have hs := a3.size
  rw [size_alloc] at hs
  refine ⟨v', w', a1, a2, ⟨a3.os, a3.tape, a3.output, by omega, fun k hk hne => (a3.old k (by rw [size_alloc]; omega) hne).trans (Below.heap_alloc w _ k hk), ?_⟩⟩
  rcases a3.alt with h4 | ⟨h4, h5⟩
  · exact .inl h4
  · refine .inr ⟨fun k hk => ?_, fun k hk => (h5 k (by rw [size_alloc]; omega)).trans (Below.heap_alloc w _ k hk)⟩
    have := h4 k hk
    rw [size_alloc] at this
    omega
end Go.Proofs.YtnnohacciikofaaDoor
