import Derived.Test.YtdbbemcddhgbcaaGreatDoorPpNA5
import Derived.Lib.FrozenHead2
/- Layer 22: mayNote, in the program; what is wrong with a note, as a number -/
namespace Go.Proofs.YtdbbemcddhgbcaaGreatDoor
open Go.RowKit Go.Shelf
namespace Nt
/-- what is wrong with a note, as a number -/
def wrongN (O : ByteArray) (z : Int) (R : ByteArray) (S : List Sg) : Int := if bdB O z R = true then (if S.length ≤ 16 then (if allOk S = true then 0 else 221) else 224) else 221
/-- an error of the layer, and its number -/
def ErP (E : Es) (c : Int) (q : Ending) : Prop := (c = 0 ∧ q = .returned .nilIface) ∨ (c = 221 ∧ ∃ t, q = .returned (FV t (EV E.f))) ∨ (c = 224 ∧ ∃ t, q = .returned (FV t (EV E.m)))
set_option maxRecDepth 100000 in
set_option maxHeartbeats 4000000 in
theorem maySignatures_many {E : Es} {w : World} (h : Nw w E) (a : Option Addr) (n c : Nat) (hn : ¬ n ≤ 16) (hn2 : n ≤ 9223372036854775807) : Calls Tryz.prog 55 #[.slice a n c] w fun q w' => (∃ t, q = .returned (FV t (EV E.m))) ∧ Below w.heap.size w w' := by
  have i0 := mayCount_no h a n c hn hn2
  clear h
  unfold FV EV at *
  go_enter Tryz.func55, Tryz.ntmps55
  go_wp2_with (go_at_call 48; (refine i0.mono ?_); rintro q w1 ⟨⟨t, rfl⟩, b1⟩)
  go_ret
  exact ⟨⟨_, rfl⟩, b1⟩
set_option maxRecDepth 100000 in
set_option maxHeartbeats 4000000 in
theorem mayNote_any {E : Es} {w : World} (h : Nw w E) (O R : ByteArray) (z : Int) (S : List Sg) (n : Nat) (hn : Hid (S.length = n)) (hn2 : n ≤ 9223372036854775807) (a : Option Addr) (c : Nat) (hA : AtS w a S) (x : Int) (hx : wrongN O z R S = x) : Calls Tryz.prog 34 #[nv O z R (.slice a n c)] w fun q w' => ErP E x q ∧ Below w.heap.size w w' := by
  have B0 := hid ((Below.refl w.heap.size w).alloc (Nat.le_refl _) (.cells #[.string O, .int .i64 z, .string R, .slice a n c] 26))
  have S0 := hid (Bx.new w O z R (.slice a n c))
  have H0 := hid (h.below B0.out)
  have HA := hid (hA.below B0.out)
  obtain ⟨B, hB⟩ : ∃ B, bdB O z R = B := ⟨_, rfl⟩
  have i1 := mayBody_any H0.out O R z (.slice a n c) B hB
  clear h hA
  obtain ⟨W, hW⟩ : ∃ W, w.alloc (.cells #[.string O, .int .i64 z, .string R, .slice a n c] 26) = W := ⟨_, rfl⟩
  unfold Hid at B0 S0 H0 HA
  rw [hW] at B0 S0 H0 HA i1
  obtain ⟨g, hg⟩ : ∃ g, w.heap.size = g := ⟨_, rfl⟩
  rw [hg] at S0
  have p0 := S0.c0
  have p1 := S0.c1
  have p2 := S0.c2
  have p3 := S0.c3
  have B0 := hid B0
  have S0 := hid S0
  have H0 := hid H0
  have HA := hid HA
  have HG := hid hg
  have HW := hid hW
  clear hg hW
  unfold nv at *
  go_enter Tryz.func34, Tryz.ntmps34
  go_upto_region 1 with fail
  rw [HW.out, HG.out]
  cases B with
  | false =>
    obtain rfl : x = 221 := by rw [← hx]; unfold wrongN; rw [hB]; rfl
    clear hx hB
    unfold FV EV at *
    go_wp2_with (go_at_call 31; (refine i1.mono ?_); rintro q w1 ⟨⟨e, rfl, he⟩, b1⟩; (rw [if_neg Bool.false_ne_true] at he); obtain ⟨t, rfl⟩ := he)
    go_ret
    exact ⟨.inr (.inl ⟨rfl, _, rfl⟩), B0.out.trans (b1.mono B0.out.size)⟩
  | true =>
    go_upto_region 4 with (go_at_call 31; (refine i1.mono ?_); rintro q w1 ⟨⟨e, rfl, he⟩, b1⟩; (rw [if_pos rfl] at he); subst he)
    have B1 := hid (B0.out.trans (b1.mono B0.out.size))
    have p4 := (S0.out.below b1).c3
    have HA1 := HA.out.below b1
    have H1 := H0.out.below b1
    by_cases h16 : n ≤ 16
    · have i2 := maySignatures_few H1 S n hn h16 a c HA1
      clear b1 HA1 H1
      go_wp2_with (go_at_call 55; (refine i2.mono ?_); rintro q w2 ⟨⟨e, rfl, he⟩, b2⟩)
      go_ret
      refine ⟨?_, B1.out.trans (b2.mono B1.out.size)⟩
      cases ho : allOk S with
      | true =>
        unfold SgF at he
        rw [if_pos ho] at he
        subst he
        exact .inl ⟨by rw [← hx]; unfold wrongN; rw [hB, if_pos rfl, if_pos (by rw [hn.out]; exact h16), if_pos ho], rfl⟩
      | false =>
        unfold SgF at he
        rw [if_neg (by rw [ho]; exact Bool.false_ne_true)] at he
        obtain ⟨t, rfl⟩ := he
        exact .inr (.inl ⟨by rw [← hx]; unfold wrongN; rw [hB, if_pos rfl, if_pos (by rw [hn.out]; exact h16), if_neg (by rw [ho]; exact Bool.false_ne_true)], t, rfl⟩)
    · have i2 := maySignatures_many H1 a n c h16 hn2
      clear b1 HA1 H1
      go_wp2_with (go_at_call 55; (refine i2.mono ?_); rintro q w2 ⟨⟨t, rfl⟩, b2⟩)
      go_ret
      exact ⟨.inr (.inr ⟨by rw [← hx]; unfold wrongN; rw [hB, if_pos rfl, if_neg (by rw [hn.out]; exact h16)], t, rfl⟩), B1.out.trans (b2.mono B1.out.size)⟩
end Nt
end Go.Proofs.YtdbbemcddhgbcaaGreatDoor

/- Layer 22: lines, in the program -/
namespace Go.Proofs.YtdbbemcddhgbcaaGreatDoor
open Go.RowKit Go.Shelf
namespace Nt
/-- texts, each with a line's end -/
def lnL (xs : List ByteArray) : List UInt8 := (xs.map fun x => x.data.toList ++ [10]).flatten
theorem lnL_cons (x : ByteArray) (xs : List ByteArray) : lnL (x :: xs) = x.data.toList ++ [10] ++ lnL xs := rfl
theorem lnL_at {xs : List ByteArray} {j : Nat} {x : ByteArray} (h : xs[j]? = some x) : lnL (xs.drop j) = x.data.toList ++ [10] ++ lnL (xs.drop (j + 1)) := by
  obtain ⟨hj, e⟩ := List.getElem?_eq_some_iff.1 h
  rw [List.drop_eq_getElem_cons hj, e]
  rfl
/-- texts in memory -/
def AtB (w : World) (a : Option Addr) (xs : List ByteArray) : Prop := ∀ j x, xs[j]? = some x → ∃ p : Addr, a = some p ∧ p.block < w.heap.size ∧ w.cell? (p.add j) = some (.string x)
theorem AtB.below {w w' : World} {a : Option Addr} {xs : List ByteArray} (h : AtB w a xs) (hb : Below w.heap.size w w') : AtB w' a xs := fun j x hx => by
  obtain ⟨p, e, h1, h2⟩ := h j x hx
  exact ⟨p, e, Nat.lt_of_lt_of_le h1 hb.size, (hb.cell (p := p.add j) (by rw [adr_block]; exact h1)).trans h2⟩
set_option maxRecDepth 100000 in
set_option maxHeartbeats 8000000 in
theorem lines_any (xs : List ByteArray) (n : Nat) (hn : Hid (xs.length = n)) (hn2 : n ≤ 9223372036854775807) (hl : (lnL xs).length ≤ 140737488355000) (a : Option Addr) (c : Nat) (w : World) (hA : AtB w a xs) : Calls Tryz.prog 52 #[.slice a n c] w fun q w' => q = .returned (.string ⟨(lnL xs).toArray⟩) ∧ Below w.heap.size w w' := by
  have HA := hid hA
  have HL := hid hl
  clear hA hl
  go_enter Tryz.func52, Tryz.ntmps52
  go_wp2
  go_loopw [5, 8] (fun _ i wr => ∃ (j : Nat) (acc : List UInt8), j ≤ n ∧ i = .int .i64 (j : Int) ∧ Hid (lnL xs = acc ++ lnL (xs.drop j)) ∧ Hid (Lib.IsBuilderF 108 5 w.heap.size w.heap.size (Lib.byteCells acc) wr) ∧ Hid (Below w.heap.size w wr)) (fun _ i _ => n - (intOf i).toNat)
  case atStart => exact ⟨0, [], by omega, rfl, by unfold Hid; rw [List.drop_zero]; rfl, Lib.IsBuilderF.of (Lib.fresh_isBuilder 108 5 w), (Below.refl _ w).alloc (Nat.le_refl _) _⟩
  case round =>
    obtain ⟨j, acc, hj, rfl, hL, hI, hB⟩ := hrel
    by_cases hjn : j < n
    · have e0 : (j : Int) < (n : Int) := by omega
      have j0 : (0 : Int) ≤ (j : Int) := by omega
      obtain ⟨x, hx⟩ : ∃ x, xs[j]? = some x := ⟨_, List.getElem?_eq_getElem (by rw [hn.out]; exact hjn)⟩
      obtain ⟨p, rfl, hp, hc⟩ := (HA.out.below hB.out) j x hx
      have hnx := hid (lnL_at hx)
      have hlen : acc.length + x.size + 1 ≤ 140737488355000 := by
        have := HL.out
        rw [hL.out, hnx.out] at this
        simp at this
        omega
      have i1 := Tryz.Builder_WriteString_k w.heap.size w.heap.size (Lib.byteCells acc) x wr hI.out (by rw [Lib.byteCells_length]; omega) hB.out.size
      have HBS := hid hB.out.size
      have HX := hid hx
      clear hx
      go_wp2_with (go_at_call 73; fail)
      refine i1.mono ?_
      rintro q w1 ⟨rfl, h1, b1, _⟩
      have i2 := Tryz.Builder_WriteByte_k w.heap.size w.heap.size (Lib.byteCells acc ++ Lib.strCells x) 10 w1 (.inr h1) (by rw [List.length_append, Lib.byteCells_length, Lib.strCells_length]; omega) (Nat.le_trans HBS.out b1.size)
      have B1 := hid (hB.out.trans b1)
      clear i1 h1 b1 hI hB
      go_wp2_with (go_at_call 74; fail)
      refine i2.mono ?_
      rintro q w2 ⟨rfl, h2, b2, _⟩
      have B2 := hid (B1.out.trans b2)
      have ecells : Lib.byteCells acc ++ Lib.strCells x ++ [.int .u8 10] = Lib.byteCells (acc ++ (x.data.toList ++ [10])) := by
        simp [Lib.byteCells, Lib.strCells]
      rw [ecells] at h2
      have H2 := hid h2
      have HN : Hid (lnL xs = (acc ++ (x.data.toList ++ [10])) ++ lnL (xs.drop (j + 1))) := by
        unfold Hid
        rw [hL.out, hnx.out]
        simp
      clear i2 h2 b2 ecells hL hnx hlen
      go_wp2
      exact ⟨⟨j + 1, acc ++ (x.data.toList ++ [10]), by omega, by go_num, HN, .inr H2.out, B2⟩, by simp [intOf]; omega⟩
    · obtain rfl : n = j := by omega
      have e0 : ¬ (n : Int) < (n : Int) := by omega
      have i3 := Tryz.Builder_String_any_k w.heap.size w.heap.size acc wr hI.out hB.out.size
      have HE : Hid (lnL xs = acc) := by
        unfold Hid
        rw [hL.out, List.drop_eq_nil_of_le (by rw [hn.out]; exact Nat.le_refl _)]
        simp [lnL]
      clear hL
      go_wp2_with (go_at_call 75; (refine i3.mono ?_); rintro q w3 ⟨rfl, _, b3, _⟩)
      go_ret
      exact ⟨by rw [HE.out]; rfl, hB.out.trans b3⟩
end Nt
end Go.Proofs.YtdbbemcddhgbcaaGreatDoor

/- Layer 22: a note's body and text, in the program -/
namespace Go.Proofs.YtdbbemcddhgbcaaGreatDoor
open Go.RowKit Go.Shelf
namespace Nt
/-- Base64 as a text -/
def bT (R : ByteArray) : ByteArray := ⟨(Tx.b64 R.data.toList).toArray⟩
theorem bT_size (R : ByteArray) : (bT R).size = (R.size + 2) / 3 * 4 := by
  unfold bT
  rw [sv_size, Tx.b64_length]
  simp
theorem b64T_any (s : ByteArray) (hs : s.size ≤ 70368744177664) (w : World) : Calls Tryz.prog 54 #[.string s] w fun e w' => e = .returned (.string (bT s)) ∧ Below w.heap.size w w' := base64_any s hs w
/-- texts in a row of their own -/
theorem AtB.row {w : World} {g : Nat} {xs : List ByteArray} {t : TypeId} (h : w.heap[g]? = some (.cells (xs.map Value.string).toArray t (0, 0))) : AtB w (some ⟨g, 0, none⟩) xs := fun j x hx => by
  refine ⟨⟨g, 0, none⟩, rfl, lt_of_heap h, ?_⟩
  rw [Addr.add_mid, Nat.zero_add, cell_of_row w g j _ _ _ h]
  simp [hx]
theorem lines_row (xs : List ByteArray) (n : Nat) (hn : xs.length = n) (hn2 : n ≤ 9223372036854775807) (hl : (lnL xs).length ≤ 140737488355000) (g c : Nat) (t : TypeId) (w : World) (h : w.heap[g]? = some (.cells (xs.map Value.string).toArray t (0, 0))) : Calls Tryz.prog 52 #[.slice (some ⟨g, 0, none⟩) n c] w fun q w' => q = .returned (.string ⟨(lnL xs).toArray⟩) ∧ Below w.heap.size w w' :=
  lines_any xs n hn hn2 hl (some ⟨g, 0, none⟩) c w (AtB.row h)
/-- a note's body -/
def bdT (O : ByteArray) (z : Int) (R : ByteArray) : ByteArray := ⟨(lnL [O, iT z, bT R]).toArray⟩
set_option maxRecDepth 100000 in
set_option maxHeartbeats 8000000 in
theorem bodyOf_any {E : Es} {w : World} (h : Nw w E) (O R : ByteArray) (z : Int) (v : Value) (hO : O.size ≤ 1000) (hR : R.size ≤ 1000) (h0 : -9223372036854775808 ≤ z) (h1 : z ≤ 9223372036854775807) : Calls Tryz.prog 33 #[nv O z R v] w fun q w' => q = .returned (.string (bdT O z R)) ∧ Below w.heap.size w w' := by
  have B0 := hid ((Below.refl w.heap.size w).alloc (Nat.le_refl _) (.cells #[.string O, .int .i64 z, .string R, v] 26))
  have S0 := hid (Bx.new w O z R v)
  obtain ⟨W, hW⟩ : ∃ W, w.alloc (.cells #[.string O, .int .i64 z, .string R, v] 26) = W := ⟨_, rfl⟩
  unfold Hid at B0 S0
  rw [hW] at B0 S0
  have H0 := hid (h.below B0)
  obtain ⟨g, hg⟩ : ∃ g, w.heap.size = g := ⟨_, rfl⟩
  rw [hg] at S0
  have B0 := hid B0
  have i1 := fun w' (bb : Below W.heap.size W w') => itoa_any (H0.out.below bb) z h0 h1
  have i2 := fun w' => b64T_any R (by omega) w'
  have hlen : (lnL [O, iT z, bT R]).length ≤ 140737488355000 := by
    have := bT_size R
    have := iT_size z h0 h1
    simp [lnL]
    omega
  have i3 := fun w' g c (hh : w'.heap[g]? = some (.cells #[.string O, .string (iT z), .string (bT R)] 9 (0, 0))) => lines_row [O, iT z, bT R] 3 rfl (by omega) hlen g c 9 w' hh
  have cs : ∀ w', Below W.heap.size W w' → w'.cell? ⟨g, 0, none⟩ = some (.string O) ∧ w'.cell? ⟨g, 1, none⟩ = some (.int .i64 z) ∧ w'.cell? ⟨g, 2, none⟩ = some (.string R) := fun w' bb => ⟨(S0.below bb).c0, (S0.below bb).c1, (S0.below bb).c2⟩
  have d0 := cs W (Below.refl _ _)
  have CS := hid cs
  have HG := hid hg
  have HW := hid hW
  clear h hg hW S0 cs hlen
  unfold nv bdT at *
  obtain ⟨Q, hQ⟩ : ∃ Q : ByteArray, (⟨(lnL [O, iT z, bT R]).toArray⟩ : ByteArray) = Q := ⟨_, rfl⟩
  rw [hQ] at i3 ⊢
  clear hQ
  go_enter Tryz.func33, Tryz.ntmps33
  go_upto_region 1 with fail
  rw [HW.out, HG.out]
  go_region_held3 (fun W => W.cell? ⟨g, 0, none⟩ = some (.string O) ∧ W.cell? ⟨g, 1, none⟩ = some (.int .i64 z) ∧ W.cell? ⟨g, 2, none⟩ = some (.string R)) (first | exact d0 | exact d1 | exact d2 | exact dA | exact d3) (first
    | (go_at_call 53; (refine (i1 _ (bw_drew _)).mono ?_); rintro q w1 ⟨rfl, b1⟩; have b1 := (bw_drew W).trans b1; have d1 := CS.out w1 b1; have B1 := hid b1; clear b1)
    | (go_at_call 54; (refine (i2 _).mono ?_); rintro q w2 ⟨rfl, b2⟩; have b2 := B1.out.trans (b2.mono B1.out.size); have d2 := CS.out w2 b2; have dA := CS.out (w2.alloc (.cells #[.string O, .string (iT z), .string (bT R)] 9)) (b2.trans (((Below.refl w2.heap.size w2).alloc (Nat.le_refl _) _).mono b2.size)); have B2 := hid b2; clear b2)
    | (go_at_call 52; (refine (i3 _ _ _ (heap_alloc_new _ _)).mono ?_); rintro q w3 ⟨rfl, b3⟩; have b3 := B2.out.trans (((Below.refl w2.heap.size w2).alloc (Nat.le_refl _) _).trans (b3.mono (by rw [size_alloc]; omega)) |>.mono B2.out.size); have d3 := CS.out w3 b3; have B3 := hid b3; clear b3))
  all_goals go_wp2
  all_goals go_ret
  all_goals exact ⟨rfl, B0.out.trans (B3.out.mono B0.out.size)⟩
end Nt
end Go.Proofs.YtdbbemcddhgbcaaGreatDoor
