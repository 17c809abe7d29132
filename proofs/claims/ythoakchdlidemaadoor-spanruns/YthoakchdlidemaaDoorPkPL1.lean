import Derived.Test.YthoakchdlidemaaDoorPkPP5
import Derived.Test.YthoakchdlidemaaDoorPkPP7
import Derived.Test.YthoakchdlidemaaDoorPkPP3
import Derived.Test.YthoakchdlidemaaDoorPkFN6
/- Layer 14, the law: known -/
namespace Go.Proofs.YthoakchdlidemaaDoor
open Go.RowKit Go.Shelf
namespace Spn
theorem at_two14 (w : World) (x z : List UInt8) : At (w.alloc (.cells #[.string ⟨x.toArray⟩, .string ⟨z.toArray⟩] 9)) (some ⟨w.heap.size, 0, none⟩) [x, z] := fun j p hp => by
  have h := heap_alloc_new w (.cells #[.string ⟨x.toArray⟩, .string ⟨z.toArray⟩] 9)
  refine ⟨_, rfl, lt_of_heap h, ?_⟩
  rw [Addr.add_mid, Nat.zero_add, cell_of_row _ _ _ _ _ _ h]
  match j, hp with
  | 0, hp => simp at hp; subst hp; rfl
  | 1, hp => simp at hp; subst hp; rfl
  | j + 2, hp => simp at hp
theorem at_one14 (w : World) (x : List UInt8) : At (w.alloc (.cells #[.string ⟨x.toArray⟩] 9)) (some ⟨w.heap.size, 0, none⟩) [x] := fun j p hp => by
  have h := heap_alloc_new w (.cells #[.string ⟨x.toArray⟩] 9)
  refine ⟨_, rfl, lt_of_heap h, ?_⟩
  rw [Addr.add_mid, Nat.zero_add, cell_of_row _ _ _ _ _ _ h]
  match j, hp with
  | 0, hp => simp at hp; subst hp; rfl
  | j + 1, hp => simp at hp
theorem run212 : Tree.runF 2 0 2 1 2 = [(0, 1)] := by decide
theorem tol212 (x y : List UInt8) : tolS [x, y] 2 1 2 = [x] := by unfold tolS; rw [run212]; rfl
set_option maxRecDepth 100000 in
set_option maxHeartbeats 4000000 in
theorem known14_any (w : World) (Z : Tb w) : Calls Tryd.prog 4 #[] w fun e w' => e = .returned (.bool true) ∧ Below w.heap.size w w' := by
  have i1 := fun w' => lleaf_at 1 (lf 1) rfl w'
  have i2 := fun w' => lleaf_at 2 (lf 2) rfl w'
  have hx := lf_length 1
  have hy := lf_length 2
  generalize lf 1 = x at *
  generalize lf 2 = y at *
  have HZ := hid Z
  have hT := Z.lt
  have H32 : Hid (x.length = 32 ∧ y.length = 32) := ⟨hx, hy⟩
  simp only [show sv x = .string ⟨x.toArray⟩ from rfl] at i1
  simp only [show sv y = .string ⟨y.toArray⟩ from rfl] at i2
  clear Z hx hy
  go_enter Tryd.func4, Tryd.ntmps4
  go_wp2_with (first
    | (go_at_call 8; (first
      | ((with_reducible refine (i1 _).mono ?_); rintro r w1 ⟨rfl, b1⟩)
      | ((with_reducible refine (i2 _).mono ?_); rintro r w2 ⟨rfl, b2⟩)))
    | (go_at_call 14; fail))
  have B2 : Hid (Below w.heap.size w w2) := b1.trans (b2.mono b1.size)
  have ba := (Below.refl w2.heap.size w2).alloc (Nat.le_refl _) (.cells #[.string ⟨x.toArray⟩, .string ⟨y.toArray⟩] 9)
  have B2' := hid (B2.out.trans (ba.mono B2.out.size))
  have hHs : Hid (Tree.Hs [x, y]) := fun q hq => by
    have := H32.out
    simp only [List.mem_cons, List.not_mem_nil, or_false] at hq
    rcases hq with rfl | rfl
    · exact this.1
    · exact this.2
  have j4 := Bat.planted12_any 0 [x, y] hHs.out (by simp) (some ⟨w2.heap.size, 0, none⟩) 2 _ (by omega) (by omega) (at_two14 w2 x y) (HZ.out.below B2'.out hT)
  rw [show ([x, y] : List (List UInt8)).length = 2 from rfl] at j4
  with_reducible refine j4.mono ?_
  rintro r w4 ⟨q, h, F, rfl, t4, _, b4⟩
  have B4 := hid (B2'.out.trans (b4.mono B2'.out.size))
  have T4 := hid t4
  clear j4 ba B2' B2 b1 b2 b4 t4
  have j5 := prove14_ok T4.out (HZ.out.below B4.out hT) 2 1 2 (by omega) (by omega) (by simp)
  rw [tol212] at j5
  simp only [show ((2 : Nat) : Int) = 2 from rfl, show ((1 : Nat) : Int) = 1 from rfl] at j5
  go_wp2_with (go_at_call 15; fail)
  with_reducible refine j5.mono ?_
  rintro r w5 ⟨gh, rfl, r5, _, b5⟩
  have B5 := hid (B4.out.trans (b5.mono B4.out.size))
  have T5 := hid (T4.out.below b5)
  have R5 := hid r5
  clear j5 r5 b5 T4 B4
  rw [show ([x] : List (List UInt8)).length = 1 from rfl]
  simp only [show ((2 : Nat) : Int) = 2 from rfl, show ((1 : Nat) : Int) = 1 from rfl]
  have ba5 := (Below.refl w5.heap.size w5).alloc (Nat.le_refl _) (.cells #[.int .i64 2, .int .i64 1, .int .i64 2, .slice (some ⟨gh, 0, none⟩) 1 1] 35)
  have S6 := hid (RnI.new w5 2 1 2 (.slice (some ⟨gh, 0, none⟩) 1 1))
  have B6 := hid (B5.out.trans (ba5.mono B5.out.size))
  have T6 := hid (T5.out.below ba5)
  have R6 := hid (R5.out.below ba5 R5.out.lt)
  clear ba5 B5 T5 R5
  go_upto_region 5 with fail
  generalize w5.alloc (.cells #[.int .i64 2, .int .i64 1, .int .i64 2, .slice (some ⟨gh, 0, none⟩) 1 1] 35) = w6 at *
  have jR := tRoot_any T6.out 2 (HZ.out.below B6.out hT) (show Hid (tPartO [x, y] 0 2 = (Tree.root [x, y], 0)) from tPartO_all)
  rw [show sv (Tree.root [x, y]) = Value.string ⟨(Tree.root [x, y]).toArray⟩ from rfl] at jR
  obtain ⟨val, V, hv⟩ := tol_val (L := [x, y]) (n := 2) (s := 1) (e := 2) (by omega) (by omega) (by simp)
  rw [tol212, show lvR [x, y] 1 2 = [y] from rfl] at V
  rw [show List.take 2 [x, y] = [x, y] from rfl] at hv
  have hy8 : hsB8 [x] = true := by simp [hsB8, H32.out.1]
  have hx8 : hsB8 [y] = true := by simp [hsB8, H32.out.2]
  go_wp2_with (go_at_call 16; fail)
  with_reducible refine jR.mono ?_
  rintro r w7 ⟨rfl, b7⟩
  have S7 := hid (S6.out.below b7)
  have B7 := hid (B6.out.trans (b7.mono B6.out.size))
  have R7 := hid (R6.out.below b7 R6.out.lt)
  clear jR b7 S6 B6 R6 T6
  have jE := fun w' (hb : Below w7.heap.size w7 w') => root14_ok 2 1 2 [x] [y] val V (by omega) (by omega) (by omega) (by simp) (by simp) hy8 hx8 (some ⟨gh, 0, none⟩) (some ⟨w'.heap.size, 0, none⟩) 1 1 (w'.alloc (.cells #[.string ⟨y.toArray⟩] 9)) (R7.out.at.below (hb.alloc hb.size _) (Nat.le_refl _)) (at_one14 w' y) (HZ.out.below (B7.out.trans ((hb.alloc hb.size _).mono B7.out.size)) hT)
  rw [hv] at jE
  simp only [show ([x] : List (List UInt8)).length = 1 from rfl, show ([y] : List (List UInt8)).length = 1 from rfl, show ((2 : Nat) : Int) = 2 from rfl, show ((1 : Nat) : Int) = 1 from rfl, show sv (Tree.root [x, y]) = Value.string ⟨(Tree.root [x, y]).toArray⟩ from rfl] at jE
  generalize Tree.root [x, y] = rr at *
  have mkS : ∀ w', Below w7.heap.size w7 w' → w'.cell? ⟨w5.heap.size, 0, none⟩ = some (.int .i64 2) ∧ w'.cell? ⟨w5.heap.size, 1, none⟩ = some (.int .i64 1) ∧ w'.cell? ⟨w5.heap.size, 2, none⟩ = some (.int .i64 2) ∧ w'.cell? ⟨w5.heap.size, 3, none⟩ = some (.slice (some ⟨gh, 0, none⟩) 1 1) := fun w' hb => ⟨(S7.out.below hb).c0, (S7.out.below hb).c1, (S7.out.below hb).c2, (S7.out.below hb).c3⟩
  have e7 := mkS w7.drew (Below.refl _ w7).drew
  go_upto_region 6 with fail
  go_region_held3 (fun w' => w'.cell? ⟨w5.heap.size, 0, none⟩ = some (.int .i64 2) ∧ w'.cell? ⟨w5.heap.size, 1, none⟩ = some (.int .i64 1) ∧ w'.cell? ⟨w5.heap.size, 2, none⟩ = some (.int .i64 2) ∧ w'.cell? ⟨w5.heap.size, 3, none⟩ = some (.slice (some ⟨gh, 0, none⟩) 1 1)) (first | exact e10 | exact e8a | exact e8 | exact e7)
    (first
      | (go_at_call 8; (with_reducible refine (i2 _).mono ?_); rintro r w8 ⟨rfl, b8'⟩; have b8 := drewBelow8 b8'; have e8 := mkS w8 b8; have b8a := b8.alloc b8.size (.cells #[.string ⟨y.toArray⟩] 9); have e8a := mkS _ b8a; have j10 := jE w8 b8)
      | (go_at_call 9; (with_reducible refine j10.mono ?_); rintro r w10 ⟨rfl, b10'⟩; have b10 := b8a.trans (b10'.mono b8a.size); have e10 := mkS w10 b10))
  have B10 := hid (B7.out.trans (b10.mono B7.out.size))
  have S10 := hid (S7.out.below b10)
  have R10 := hid (R7.out.below b10 R7.out.lt)
  clear mkS e7 e8 e8a e10 b8 b8' b8a b10 b10' jE j10 B7 S7 R7 V hv
  have jN := newJoiner_ok 0 1 (by omega) (by omega) w10
  simp only [show ((0 : Nat) : Int) = 0 from rfl, show ((1 : Nat) : Int) = 1 from rfl] at jN
  go_wp2_with (go_at_call 17; fail)
  with_reducible refine jN.mono ?_
  rintro r w11 ⟨g, rfl, J11, g11, b11⟩
  have ba11 := (Below.refl w11.heap.size w11).alloc (Nat.le_refl _) (.cells #[.string ⟨#[97]⟩] 9)
  have glt := lt_of_heap J11
  have jT := jTake_ok (a := 0) (e := 1) (J11.below ba11) (Ls := []) (OwnM.nil 1 _) (by intro h; cases h) (by simp) [[97]] (by simp) (by simp) (by omega) (fun z hz => by simp at hz; subst hz; simp) (some ⟨w11.heap.size, 0, none⟩) 1 (at_one14 w11 [97]) (fun z hz => by cases hz; exact ⟨by show w11.heap.size ≠ g; omega, by intro h; cases h⟩)
  simp only [show ((0 : Nat) : Int) = 0 from rfl, show ([[97]] : List (List UInt8)).length = 1 from rfl] at jT
  have B11 := hid (B10.out.trans (b11.mono B10.out.size))
  have S11 := hid (S10.out.below b11)
  have R11 := hid (R10.out.below b11 R10.out.lt)
  have BA11 := hid ba11
  have Z11 := hid g11
  have zz := hid B10.out.size
  have hne5 : w5.heap.size ≠ g := by have := lt_of_heap S10.out; omega
  have hneh : gh ≠ g := by have := R10.out.lt; omega
  clear jN b11 J11 B10 S10 R10 ba11 g11
  go_wp2_with (go_at_call 18; fail)
  with_reducible refine jT.mono ?_
  rintro r w12 ⟨rfl, v12, J12, O12, V12, K12⟩
  have k12 : Keep (fun k => k = g) (w11.alloc (.cells #[.string ⟨#[97]⟩] 9)) w12 := ⟨K12.os, K12.tape, K12.output, K12.size, fun k hk hs => K12.block k hk (fun h => by rcases h with h | h; exact hs h; cases h)⟩
  have S12 := hid ((S11.out.below BA11.out).keep k12 hne5)
  have R12 : Hid (Row w12 gh [x]) := (k12.block gh (Nat.lt_of_lt_of_le R11.out.lt BA11.out.size) hneh).trans (R11.out.below BA11.out R11.out.lt)
  have b12 := (B11.out.trans (BA11.out.mono B11.out.size))
  have B12 := hid (b12.trans (keep_below14 k12 b12.size (fun k hk => by have := Z11.out; have := B11.out.size; have := zz.out; omega)))
  have jL := jEntries J12 O12 (by simp)
  have HJ := hid J12
  clear K12 k12 O12 V12 J12 S11 R11 B11 BA11 jT b12
  go_wp2_with (go_at_call 19; fail)
  with_reducible refine jL.mono ?_
  rintro r w13 ⟨v13, rfl, o13, _, b13⟩
  obtain ⟨aE, cE, hv13, hat, _, _⟩ := ownM_at o13
  subst hv13
  simp only [show (([] : List (List UInt8)) ++ [[97]]).length = 1 from rfl]
  obtain ⟨y13, rfl, hb13, hc13⟩ := hat 0 [97] rfl
  have hc13' : w13.cell? y13 = some (.string ⟨#[97]⟩) := hc13
  have J13 := hid (HJ.out.below b13)
  have S13 := hid (S12.out.below b13)
  have R13 := hid (R12.out.below b13 R12.out.lt)
  have B13 := hid (B12.out.trans (b13.mono B12.out.size))
  have C13 := hid hc13'
  clear hat o13 b13 HJ S12 R12 B12 jL hc13 hc13'
  have hxx : ((ByteArray.mk x.toArray).toList == (ByteArray.mk x.toArray).toList) = true := by simp
  have hrr : ((ByteArray.mk rr.toArray).toList == (ByteArray.mk rr.toArray).toList) = true := by simp
  have haa : ((ByteArray.mk #[97]).toList == (ByteArray.mk #[97]).toList) = true := by simp
  have mkS : ∀ w', Below w13.heap.size w13 w' → w'.cell? ⟨w5.heap.size, 3, none⟩ = some (.slice (some ⟨gh, 0, none⟩) 1 1) ∧ w'.cell? ⟨gh, 0, none⟩ = some (.string ⟨x.toArray⟩) ∧ w'.cell? y13 = some (.string ⟨#[97]⟩) := fun w' hb => ⟨(S13.out.below hb).c3, (R13.out.below hb R13.out.lt).cell (j := 0) rfl, (hb.cell hb13).trans C13.out⟩
  have e13 := mkS w13.drew (Below.refl _ w13).drew
  have jD := fun w' (hb : Below w13.heap.size w13 w') => jDone (J13.out.below hb) true (by rfl)
  go_upto_region 12 with fail
  go_region_held3 (fun w' => w'.cell? ⟨w5.heap.size, 3, none⟩ = some (.slice (some ⟨gh, 0, none⟩) 1 1) ∧ w'.cell? ⟨gh, 0, none⟩ = some (.string ⟨x.toArray⟩) ∧ w'.cell? y13 = some (.string ⟨#[97]⟩)) (first | exact e15 | exact e14 | exact e13)
    (first
      | (go_at_call 8; (with_reducible refine (i1 _).mono ?_); rintro r w14 ⟨rfl, b14'⟩; have b14 := drewBelow8 b14'; have e14 := mkS w14 b14)
      | (go_at_call 20; (with_reducible refine (jD _ b14).mono ?_); rintro r w15 ⟨rfl, m15, hw15⟩; have b15 : Below w13.heap.size w13 w15 := b14.trans (by rw [hw15]; exact (drewN_below m15).mono b14.size); clear hw15; have e15 := mkS w15 b15))
  all_goals
    have BE := hid (B13.out.trans (b15.mono B13.out.size))
    clear mkS e13 e14 e15 b15 jD
    go_wp2
    go_ret
    exact ⟨rfl, BE.out⟩
end Spn
end Go.Proofs.YthoakchdlidemaaDoor

/- Layer 14, the program: Root of what is not right; Check -/
namespace Go.Proofs.YthoakchdlidemaaDoor
open Go.RowKit Go.Shelf
namespace Spn
/-- P2: what is wrong with a run and leaves -/
def rotE (n x y : Int) (H L : List (List UInt8)) : Int :=
  if n ≤ 1099511627776 ∧ runB n x y = true then
    if H.length = (Tree.runF n.toNat 0 n.toNat x.toNat y.toNat).length ∧ (L.length : Int) = y - x ∧ L.length ≤ 4096 ∧ hsB8 H = true ∧ hsB8 L = true then 0 else 141
  else 140
theorem rotE_zero {n x y : Int} {H L : List (List UInt8)} (h : rotE n x y H L = 0) : ∃ n' x' y' : Nat, n = n' ∧ x = x' ∧ y = y' ∧ x' < y' ∧ y' ≤ n' ∧ n' ≤ 1099511627776 ∧ H.length = (Tree.runF n' 0 n' x' y').length ∧ L.length = y' - x' ∧ L.length ≤ 4096 ∧ hsB8 H = true ∧ hsB8 L = true := by
  unfold rotE at h
  by_cases h1 : n ≤ 1099511627776 ∧ runB n x y = true
  · rw [if_pos h1] at h
    by_cases h2 : H.length = (Tree.runF n.toNat 0 n.toNat x.toNat y.toNat).length ∧ (L.length : Int) = y - x ∧ L.length ≤ 4096 ∧ hsB8 H = true ∧ hsB8 L = true
    · obtain ⟨a1, a2, a3, a4, a5⟩ := h2
      obtain ⟨b1, b2⟩ := h1
      unfold runB at b2
      simp only [decide_eq_true_eq] at b2
      exact ⟨n.toNat, x.toNat, y.toNat, by omega, by omega, by omega, by omega, by omega, by omega, a1, by omega, a3, a4, a5⟩
    · rw [if_neg h2] at h; cases h
  · rw [if_neg h1] at h; cases h
set_option maxRecDepth 100000 in
set_option maxHeartbeats 8000000 in
theorem root14_bad (n x y : Int) (H L : List (List UInt8)) (hH : H.length ≤ 9223372036854775807) (hL : L.length ≤ 9223372036854775807) (hne : rotE n x y H L ≠ 0) (aH aL : Option Addr) (cH cL : Nat) (w : World) (hAH : At w aH H) (hAL : At w aL L) (Z : Tb w) :
    Calls Tryd.prog 9 #[rn n x y (.slice aH H.length cH), .slice aL L.length cL] w fun r w' => r = .returned (.tuple #[.string ⟨#[]⟩, .int .i64 (rotE n x y H L)]) ∧ Below w.heap.size w w' := by
  have W1 := RnI.new w n x y (.slice aH H.length cH)
  have b1 := (Below.refl w.heap.size w).alloc (Nat.le_refl _) (.cells #[.int .i64 n, .int .i64 x, .int .i64 y, .slice aH H.length cH] 35)
  have b2' := (Below.refl _ (w.alloc (.cells #[.int .i64 n, .int .i64 x, .int .i64 y, .slice aH H.length cH] 35))).alloc (Nat.le_refl _) (.cells #[.int .i64 x, .int .i64 y] 29)
  have S2 := SpI.new (w.alloc (.cells #[.int .i64 n, .int .i64 x, .int .i64 y, .slice aH H.length cH] 35)) x y
  rw [size_alloc] at S2
  have W2 := W1.below b2'
  have b2 := b1.trans (b2'.mono b1.size)
  have k1 := W1.c1
  have k2 := W1.c2
  have l0 := W2.c0
  have l1 := S2.c0
  have l2 := S2.c1
  have HW := hid W2
  have HS := hid S2
  have HB := hid b2
  have HZ := hid Z
  have hZl := Z.lt
  have HAH := hid hAH
  have HAL := hid hAL
  clear W1 b1 b2' S2 W2 b2 hAH hAL Z
  by_cases c1 : n ≤ 1099511627776
  · have q0 : ¬ (1099511627776 : Int) < n := by omega
    cases hq : runB n x y with
    | false =>
      have i1 := fun w' => isRun_is n x y false hq w'
      have he : Hid (rotE n x y H L = 140) := by unfold Hid rotE; rw [if_neg (by rw [hq]; simp)]
      rw [he.out]
      generalize H.length = nH at *
      generalize L.length = nL at *
      clear hne hq
      go_enter Tryd.func9, Tryd.ntmps9
      go_wp2_with (go_at_call 25; refine (i1 _).mono ?_; rintro r w3 ⟨rfl, b3⟩; have B3 := hid (HB.out.trans (b3.mono HB.out.size)); clear b3)
      go_ret2
      exact ⟨rfl, B3.out⟩
    | true =>
      have i1 := fun w' => isRun_is n x y true hq w'
      have hq' := hq
      unfold runB at hq'
      simp only [decide_eq_true_eq] at hq'
      obtain ⟨N, rfl⟩ : ∃ N : Nat, n = (N : Int) := ⟨n.toNat, by omega⟩
      obtain ⟨s, rfl⟩ : ∃ s : Nat, x = (s : Int) := ⟨x.toNat, by omega⟩
      obtain ⟨e, rfl⟩ : ∃ e : Nat, y = (e : Int) := ⟨y.toNat, by omega⟩
      have i2 := fun w' => told14_any N s e (by omega) (by omega) (by omega) w'
      have he : Hid (rotE (N : Int) (s : Int) (e : Int) H L = 141) := by
        unfold Hid
        have h2 : ¬ (H.length = (Tree.runF (N : Int).toNat 0 (N : Int).toNat (s : Int).toNat (e : Int).toNat).length ∧ (L.length : Int) = (e : Int) - (s : Int) ∧ L.length ≤ 4096 ∧ hsB8 H = true ∧ hsB8 L = true) := fun h => hne (by unfold rotE; rw [if_pos ⟨c1, hq⟩, if_pos h])
        unfold rotE
        rw [if_pos ⟨c1, hq⟩, if_neg h2]
      have h2 : Hid (¬ (H.length = (Tree.runF N 0 N s e).length ∧ L.length = e - s ∧ L.length ≤ 4096 ∧ hsB8 H = true ∧ hsB8 L = true)) := fun h => hne (by unfold rotE; rw [if_pos ⟨c1, hq⟩, if_pos ⟨h.1, by omega, h.2.2⟩])
      rw [he.out]
      obtain ⟨T, hTl⟩ : ∃ T, (Tree.runF N 0 N s e).length = T := ⟨_, rfl⟩
      have HTl := hid hTl
      obtain ⟨d, hd⟩ : ∃ d, e - s = d := ⟨_, rfl⟩
      have hsub : IntKind.i64.wrap ((e : Int) - (s : Int)) = (d : Int) := by rw [IntKind.wrap_i64]; omega
      have i3 := fun w' hA q hq => areHashes14_is H q hq aH cH w' hH hA
      have hse : s ≤ 1099511627776 := by omega
      have i4 := fun w' hA hT' => Compact_any (s : Int) L aL cL w' (by omega) (by omega) hL hA hT'
      rw [Int.toNat_natCast] at i4
      have h2' : Hid (¬ (H.length = T ∧ L.length = d ∧ L.length ≤ 4096 ∧ hsB8 H = true ∧ hsB8 L = true)) := by unfold Hid; rw [← hTl, ← hd]; exact h2.out
      have hd' : Hid (s + d ≤ 1099511627776) := by unfold Hid; omega
      have hcm : Hid (cmpE (s : Int) L = 0 → L.length ≤ 4096 ∧ hsB8 L = true) := fun h => by
        unfold cmpE at h
        by_cases g1 : (0 : Int) ≤ (s : Int) ∧ (s : Int) ≤ 1099511627776 ∧ L.length ≤ 4096
        · rw [if_pos g1] at h
          by_cases g2 : (s : Int) + (L.length : Int) ≤ 1099511627776
          · rw [if_pos g2] at h
            by_cases g3 : hsB L = true
            · exact ⟨g1.2.2, g3⟩
            · rw [if_neg g3] at h; cases h
          · rw [if_neg g2] at h; cases h
        · rw [if_neg g1] at h; cases h
      obtain ⟨nH, hnH⟩ : ∃ nH, H.length = nH := ⟨_, rfl⟩
      obtain ⟨nL, hnL⟩ : ∃ nL, L.length = nL := ⟨_, rfl⟩
      have HnL := hid hnL
      unfold Hid at h2'
      rw [hnH, hnL] at h2'
      have h2' := hid h2'
      rw [hnH] at i3 HW HS HB k1 k2 l0 l1 l2 ⊢
      rw [hnL] at i4 ⊢
      clear hne hq hq' h2 hTl hd hnH hnL hH hL
      go_enter Tryd.func9, Tryd.ntmps9
      go_wp2_with (go_at_call 25; fail)
      clear k1 k2 l0 l1 l2
      generalize (w.alloc (.cells #[.int .i64 (N : Int), .int .i64 (s : Int), .int .i64 (e : Int), .slice aH nH cH] 35)).alloc (.cells #[.int .i64 (s : Int), .int .i64 (e : Int)] 29) = w2 at *
      refine (i1 _).mono ?_
      rintro r w3 ⟨rfl, b3⟩
      have W3 := hid (HW.out.below b3)
      have S3 := hid (HS.out.below b3)
      have B3 := hid (HB.out.trans (b3.mono HB.out.size))
      have l0 := W3.out.c0
      have l1 := S3.out.c0
      have l2 := S3.out.c1
      clear i1 b3 HW HS HB
      go_wp2_with (go_at_call 26; fail)
      clear l0 l1 l2
      refine (i2 _).mono ?_
      rintro r w4 ⟨v4, rfl, o4, _, b4⟩
      obtain ⟨a4, c4, rfl, p1, p2⟩ := OwnM.shape o4
      rw [HTl.out]
      have W4 := hid (W3.out.below b4)
      have S4 := hid (S3.out.below b4)
      have B4 := hid (B3.out.trans (b4.mono B3.out.size))
      have l0 := W4.out.c3
      have l1 := S4.out.c0
      have l2 := S4.out.c1
      have A4 := HAH.out.below B4.out (Nat.le_refl _)
      clear i2 b4 o4 W3 S3 B3
      by_cases g1 : nH = T
      · have u1 : ((nH : Int) != (T : Int)) = false := by simp [g1]
        by_cases g2 : nL = d
        · have u2 : ((nL : Int) != (d : Int)) = false := by simp [g2]
          cases g3 : hsB8 H with
          | false =>
            have i3' := i3 w4 A4 false g3
            have G1 := hid g1
            have G2 := hid g2
            clear g1 g2 g3 i3 i4
            go_wp2_with (go_at_call 27; (with_reducible refine i3'.mono ?_); rintro r w5 ⟨rfl, h0⟩; have h0 := h0.symm; subst h0)
            go_ret2
            exact ⟨rfl, B4.out⟩
          | true =>
            have i3' := i3 w4 A4 true g3
            have hce : cmpE (s : Int) L ≠ 0 := fun h => h2'.out ⟨g1, g2, by have := (hcm.out h).1; have := HnL.out; omega, g3, (hcm.out h).2⟩
            have i4' := i4 w4 (HAL.out.below B4.out (Nat.le_refl _)) (HZ.out.below B4.out hZl).t
            have u3 : (cmpE (s : Int) L != 0) = true := by simpa using hce
            have G1 := hid g1
            have G2 := hid g2
            have HCE := hid hce
            generalize cmpE (s : Int) L = ce at *
            clear g1 g2 g3 i3 i4 hce
            go_wp2_with (first
              | (go_at_call 27; (with_reducible refine i3'.mono ?_); rintro r w5 ⟨rfl, h0⟩; have h0 := h0.symm; subst h0)
              | (go_at_call 10; fail))
            with_reducible refine i4'.mono ?_
            rintro r w6 ⟨b6, hr6⟩
            rw [if_neg HCE.out] at hr6
            subst hr6
            have B6 := hid (B4.out.trans (b6.mono B4.out.size))
            go_wp2
            go_ret2
            exact ⟨rfl, B6.out.alloc B6.out.size _⟩
        · have u2 : ((nL : Int) != (d : Int)) = true := by simp; omega
          have G1 := hid g1
          clear g1 g2 i3 i4
          go_wp2
          go_ret2
          exact ⟨rfl, B4.out⟩
      · have u1 : ((nH : Int) != (T : Int)) = true := by simp; omega
        clear g1 i3 i4
        go_wp2
        go_ret2
        exact ⟨rfl, B4.out⟩
  · have q0 : (1099511627776 : Int) < n := by omega
    have he : Hid (rotE n x y H L = 140) := by unfold Hid rotE; rw [if_neg (by omega)]
    rw [he.out]
    generalize H.length = nH at *
    generalize L.length = nL at *
    clear hne c1
    go_enter Tryd.func9, Tryd.ntmps9
    go_wp2
    go_ret2
    exact ⟨rfl, HB.out⟩
/-- what Root says, and Check -/
def rotO (n x y : Int) (H L : List (List UInt8)) (t : List UInt8) : Prop := (rotE n x y H L ≠ 0 ∧ t = []) ∨ (rotE n x y H L = 0 ∧ ∃ val, Val (rix x.toNat y.toNat) n.toNat H L val ∧ t = val (0, n.toNat))
theorem rotO_is (n x y : Int) (H L : List (List UInt8)) : ∃ t, rotO n x y H L t := by
  by_cases h : rotE n x y H L = 0
  · obtain ⟨n', x', y', rfl, rfl, rfl, h1, h2, h3, h4, h5, _⟩ := rotE_zero h
    obtain ⟨val, V⟩ := val_of h1 h2 h4 h5
    exact ⟨_, .inr ⟨h, val, by simpa using V, rfl⟩⟩
  · exact ⟨_, .inl ⟨h, rfl⟩⟩
theorem root14_any {n x y : Int} {H L : List (List UInt8)} {t : List UInt8} (ht : rotO n x y H L t) (hH : H.length ≤ 9223372036854775807) (hL : L.length ≤ 9223372036854775807) (aH aL : Option Addr) (cH cL : Nat) (w : World) (hAH : At w aH H) (hAL : At w aL L) (Z : Tb w) :
    Calls Tryd.prog 9 #[rn n x y (.slice aH H.length cH), .slice aL L.length cL] w fun r w' => r = .returned (.tuple #[sv t, .int .i64 (rotE n x y H L)]) ∧ Below w.heap.size w w' := by
  rcases ht with ⟨h, rfl⟩ | ⟨h, val, V, rfl⟩
  · exact root14_bad n x y H L hH hL h aH aL cH cL w hAH hAL Z
  · rw [h]
    obtain ⟨n', x', y', rfl, rfl, rfl, h1, h2, h3, h4, h5, h6, h7, h8⟩ := rotE_zero h
    simp only [Int.toNat_natCast] at V ⊢
    exact root14_ok n' x' y' H L val V h1 h2 h3 h5 h6 h7 h8 aH aL cH cL w hAH hAL Z
/-- P2: Check -/
def chkO (e : Int) (t r : List UInt8) : Int := if e = 0 then (if t = r then 0 else 142) else e
set_option maxRecDepth 100000 in
set_option maxHeartbeats 4000000 in
theorem check14_any {n x y : Int} {H L : List (List UInt8)} {t : List UInt8} (ht : rotO n x y H L t) (rt : List UInt8) (hH : H.length ≤ 9223372036854775807) (hL : L.length ≤ 9223372036854775807) (aH aL : Option Addr) (cH cL : Nat) (w : World) (hAH : At w aH H) (hAL : At w aL L) (Z : Tb w) :
    Calls Tryd.prog 13 #[rn n x y (.slice aH H.length cH), .slice aL L.length cL, sv rt] w fun r w' => r = .returned (.int .i64 (chkO (rotE n x y H L) t rt)) ∧ Below w.heap.size w w' := by
  have W1 := RnI.new w n x y (.slice aH H.length cH)
  have b1 := (Below.refl w.heap.size w).alloc (Nat.le_refl _) (.cells #[.int .i64 n, .int .i64 x, .int .i64 y, .slice aH H.length cH] 35)
  have i1 := root14_any ht hH hL aH aL cH cL _ (hAH.below b1 (Nat.le_refl _)) (hAL.below b1 (Nat.le_refl _)) (Z.below b1 Z.lt)
  have k0 := W1.c0
  have k1 := W1.c1
  have k2 := W1.c2
  have k3 := W1.c3
  have HB := hid b1
  rw [show sv t = Value.string ⟨t.toArray⟩ from rfl] at i1
  rw [show sv rt = Value.string ⟨rt.toArray⟩ from rfl]
  generalize rotE n x y H L = e at *
  generalize H.length = nH at *
  generalize L.length = nL at *
  clear W1 b1 hAH hAL Z ht
  by_cases h0 : e = 0
  · subst h0
    by_cases h1 : t = rt
    · subst h1
      have hr : Hid (chkO 0 t t = 0) := by unfold Hid chkO; rw [if_pos rfl, if_pos rfl]
      have htt : ((ByteArray.mk t.toArray).toList == (ByteArray.mk t.toArray).toList) = true := by simp
      rw [hr.out]
      go_enter Tryd.func13, Tryd.ntmps13
      go_wp2_with (go_at_call 9; (with_reducible refine i1.mono ?_); rintro r w2 ⟨rfl, b2⟩; have B2 := hid (HB.out.trans (b2.mono HB.out.size)); clear b2)
      go_ret
      exact ⟨rfl, B2.out⟩
    · have hr : Hid (chkO 0 t rt = 142) := by unfold Hid chkO; rw [if_pos rfl, if_neg h1]
      have htt : ((ByteArray.mk t.toArray).toList == (ByteArray.mk rt.toArray).toList) = false := by simpa using h1
      have htt' : (t == rt) = false := by simpa using h1
      rw [hr.out]
      clear h1
      go_enter Tryd.func13, Tryd.ntmps13
      go_wp2_with (go_at_call 9; (with_reducible refine i1.mono ?_); rintro r w2 ⟨rfl, b2⟩; have B2 := hid (HB.out.trans (b2.mono HB.out.size)); clear b2)
      go_ret
      exact ⟨rfl, B2.out⟩
  · have hr : Hid (chkO e t rt = e) := by unfold Hid chkO; rw [if_neg h0]
    have h1 : (e != 0) = true := by simpa using h0
    rw [hr.out]
    go_enter Tryd.func13, Tryd.ntmps13
    go_wp2_with (go_at_call 9; (with_reducible refine i1.mono ?_); rintro r w2 ⟨rfl, b2⟩; have B2 := hid (HB.out.trans (b2.mono HB.out.size)); clear b2)
    go_ret
    exact ⟨rfl, B2.out⟩
end Spn
end Go.Proofs.YthoakchdlidemaaDoor

namespace Go.Proofs.YthoakchdlidemaaDoor
open Go.RowKit
namespace Cut
open Tree
theorem join_step {a p c : Nat} {H G : List T} {x : T} (h0 : c ≤ 1099511627776) (h1 : a ≤ p) (h2 : p < c) (hl : H.length = (cut a p).length) : joinH a p c H (x :: G) = joinH a (p + 2 ^ lev p c) c (takeH a p (2 ^ lev p c) x H) G := by
  obtain ⟨g1, g2, g3, g4, _⟩ := grow_facts h0 h2
  have hg := lev_grow h0 h2
  rw [hg] at g1 g2 g3
  unfold joinH
  rw [cut_cons h0 h2, hg, List.zip_cons_cons, takeH_step (by omega) h1 g1 g2 hl]
theorem join_end {a c : Nat} {H : List T} (hl : H.length = (cut a c).length) : joinH a c c H [] = H := by
  unfold joinH
  rw [cut_nil, List.zip_nil_left, pushAllH, List.reverse_reverse, zip_snd _ _ hl.symm]
end Cut
theorem wrap_sum {p N C : Nat} (h : p + N ≤ C) (hC : C ≤ 1099511627776) : wrap64 ((p : Int) + (N : Int)) = ((p + N : Nat) : Int) := by unfold wrap64; omega
theorem val_succ (j : Nat) : Value.int IntKind.i64 ((j : Int) + 1) = .int .i64 ((j + 1 : Nat) : Int) := rfl
theorem dec_succ {j n : Nat} (h : j < n) : n - (intOf (Value.int IntKind.i64 ((j : Int) + 1))).toNat < n - (intOf (Value.int IntKind.i64 (j : Int))).toNat := by simp [intOf]; omega
theorem Cj.below {w0 w1 w2 : World} {O : Nat → Prop} {q s a e : Nat} {v : Value} {H : List (List UInt8)} (h : Cj w0 w1 O q s a e v H) (hb : Below w1.heap.size w1 w2) : Cj w0 w2 O q s a e v H :=
  ⟨h.nl.below hb, h.sp.below hb, h.own, h.keep.trans (Keep.ofBelow (S := fun k => k = q ∨ k = s ∨ O k) hb) fun _ _ e => e⟩
theorem Cj.drew {w0 w1 : World} {O : Nat → Prop} {q s a e : Nat} {v : Value} {H : List (List UInt8)} (h : Cj w0 w1 O q s a e v H) : Cj w0 w1.drew O q s a e v H :=
  ⟨⟨h.nl.row, h.nl.at0, h.nl.own.drew, h.nl.ne⟩, h.sp, h.own, ⟨h.keep.os, h.keep.tape, h.keep.output, h.keep.size, h.keep.block⟩⟩
/-- F4 -/
def joinE (b1 e1 b2 e2 : Int) (H1 H2 : List (List UInt8)) : Int := if rgt b1 e1 H1.length = true ∧ rgt b2 e2 H2.length = true then (if hsB H1 = true ∧ hsB H2 = true then (if e1 = b2 then 0 else 51) else 52) else 50
theorem rgt_true {b e : Int} {k : Nat} (h : rgt b e k = true) : ∃ b' e' : Nat, b = b' ∧ e = e' ∧ b' ≤ e' ∧ e' ≤ 1099511627776 ∧ k = (Cut.cut b' e').length := by
  unfold rgt at h
  simp only [decide_eq_true_eq] at h
  obtain ⟨h1, h2, h3, h4, h5, h6⟩ := h
  exact ⟨b.toNat, e.toNat, by omega, by omega, by omega, by omega, h6⟩
set_option maxRecDepth 100000 in
set_option maxHeartbeats 8000000 in
theorem Join_any (b1 e1 b2 e2 : Int) (H1 H2 : List (List UInt8)) (a1 a2 : Option Addr) (k1 k2 : Nat) (w : World) (hl1 : H1.length ≤ 9223372036854775807) (hl2 : H2.length ≤ 9223372036854775807) (hA1 : At w a1 H1) (hA2 : At w a2 H2) (Z : Tb w) :
    Calls Tryd.prog 11 #[rng b1 e1 (.slice a1 H1.length k1), rng b2 e2 (.slice a2 H2.length k2)] w (RgP w (joinE b1 e1 b2 e2 H1 H2) b1 e2 (Cut.joinH b1.toNat e1.toNat e2.toNat H1 H2)) := by
  obtain ⟨w0, hw0⟩ : ∃ w0, ((w.alloc (.cells #[Value.int .i64 b1, .int .i64 e1, .slice a1 H1.length k1] 40)).alloc (.cells #[Value.int .i64 b2, .int .i64 e2, .slice a2 H2.length k2] 40)).alloc (.cells #[Value.int .i64 0, .int .i64 0, .slice none 0 0] 40) = w0 := ⟨_, rfl⟩
  obtain ⟨r0, r1, r2, r3⟩ := alloc3 w (.cells #[Value.int .i64 b1, .int .i64 e1, .slice a1 H1.length k1] 40) (.cells #[Value.int .i64 b2, .int .i64 e2, .slice a2 H2.length k2] 40) (.cells #[Value.int .i64 0, .int .i64 0, .slice none 0 0] 40)
  have B0 := below_alloc3 w (.cells #[Value.int .i64 b1, .int .i64 e1, .slice a1 H1.length k1] 40) (.cells #[Value.int .i64 b2, .int .i64 e2, .slice a2 H2.length k2] 40) (.cells #[Value.int .i64 0, .int .i64 0, .slice none 0 0] 40)
  rw [hw0] at r0 r1 r2 r3 B0
  have HW0 := hid hw0
  have hT := Z.lt
  have RA : Hid (Rg w0 w.heap.size b1 e1 (.slice a1 H1.length k1)) := r0
  have RB : Hid (Rg w0 (w.heap.size + 1) b2 e2 (.slice a2 H2.length k2)) := r1
  have RR : Hid (Rg w0 (w.heap.size + 2) 0 0 (.slice none 0 0)) := r2
  have HB0 := hid B0
  have Z0 := hid (Z.below B0 hT)
  have A1 := hid (hA1.below B0 (Nat.le_refl _))
  have A2 := hid (hA2.below B0 (Nat.le_refl _))
  have hsz := hid r3
  have p0 := RA.out.c0
  have p1 := RA.out.c1
  have p2 := RA.out.c2
  have q0 := RB.out.c0
  have q1 := RB.out.c1
  have q2 := RB.out.c2
  have i1 := isRight_any b1 e1 a1 H1.length k1 w0 Z0.out
  have i2 := fun w' (hb : Below w0.heap.size w0 w') => isRight_any b2 e2 a2 H2.length k2 w' (Z0.out.below hb Z0.out.lt)
  obtain ⟨E, hE⟩ : ∃ E, Hid (joinE b1 e1 b2 e2 H1 H2 = E) := ⟨_, rfl⟩
  rw [hE.out]
  clear r0 r1 r2 r3 B0 hA1 hA2 Z hw0
  cases hr1 : rgt b1 e1 H1.length with
  | false =>
    rw [hr1] at i1
    have e0 := hid (show E = 50 by rw [← hE.out]; unfold joinE; rw [if_neg (by rw [hr1]; simp)])
    clear hr1 hE A1 A2 p0 p1 p2 q0 q1 q2
    generalize H1.length = n1 at *
    generalize H2.length = n2 at *
    go_enter Tryd.func11, Tryd.ntmps11
    go_wp2_with (go_at_call 33; fail)
    rw [HW0.out]
    refine i1.mono ?_
    rintro r w1 ⟨rfl, hw1⟩
    have RB1 := RB.out.below hw1
    have q0 := RB1.c0
    have q1 := RB1.c1
    have q2 := RB1.c2
    have RA1 := RA.out.below hw1
    have p0 := RA1.c0
    have p1 := RA1.c1
    have p2 := RA1.c2
    have RR1 := hid (RR.out.below hw1)
    have B1 := hid (HB0.out.trans (hw1.mono HB0.out.size))
    go_wp2_with ((with_reducible show wpList _ _ _ (Oper.mk _ (Op.store 40 _ _) _ _ _ _ :: _) _ _); go_must (refine wpList_store_row rfl 40 _ _ rfl (w.heap.size + 2) _ rfl rfl 40 _ RR1.out.row (sizeRg' _ _ _) rfl (oneRg _ _ _ _ _) ?_))
    refine bodyPost_ret (results_row_tmp rfl _ _ (w.heap.size + 2) 40 _ (0, 0) _ rfl (setRow_heap _ _ _ _ _ _ RR1.out.row) Tryd.underlying40 rfl sizeRg) rfl ?_
    rw [e0.out]
    exact RgP.bad (by omega) (Below.setRow B1.out (by omega) _)
  | true =>
    rw [hr1] at i1
    cases hr2 : rgt b2 e2 H2.length with
    | false =>
      rw [hr2] at i2
      have e0 := hid (show E = 50 by rw [← hE.out]; unfold joinE; rw [if_neg (by rw [hr2]; simp)])
      clear hr1 hr2 hE A1 A2 p0 p1 p2 q0 q1 q2
      generalize H1.length = n1 at *
      generalize H2.length = n2 at *
      go_enter Tryd.func11, Tryd.ntmps11
      go_wp2_with (go_at_call 33; fail)
      rw [HW0.out]
      refine i1.mono ?_
      rintro r w1 ⟨rfl, hw1⟩
      have RB1 := RB.out.below hw1
      have q0 := RB1.c0
      have q1 := RB1.c1
      have q2 := RB1.c2
      have RA1 := RA.out.below hw1
      have p0 := RA1.c0
      have p1 := RA1.c1
      have p2 := RA1.c2
      have RR1 := hid (RR.out.below hw1)
      have B1 := hid (HB0.out.trans (hw1.mono HB0.out.size))
      go_wp2_with (go_at_call 33; fail)
      refine (i2 _ hw1).mono ?_
      rintro r w2 ⟨rfl, hw2⟩
      have h12 := hw1.trans (hw2.mono hw1.size)
      have RB2 := RB1.below hw2
      have q0 := RB2.c0
      have q1 := RB2.c1
      have q2 := RB2.c2
      have RA2 := RA1.below hw2
      have p0 := RA2.c0
      have p1 := RA2.c1
      have p2 := RA2.c2
      have RR2 := hid (RR1.out.below hw2)
      have B2 := hid (B1.out.trans (hw2.mono B1.out.size))
      go_wp2_with ((with_reducible show wpList _ _ _ (Oper.mk _ (Op.store 40 _ _) _ _ _ _ :: _) _ _); go_must (refine wpList_store_row rfl 40 _ _ rfl (w.heap.size + 2) _ rfl rfl 40 _ RR2.out.row (sizeRg' _ _ _) rfl (oneRg _ _ _ _ _) ?_))
      refine bodyPost_ret (results_row_tmp rfl _ _ (w.heap.size + 2) 40 _ (0, 0) _ rfl (setRow_heap _ _ _ _ _ _ RR2.out.row) Tryd.underlying40 rfl sizeRg) rfl ?_
      rw [e0.out]
      exact RgP.bad (by omega) (Below.setRow B2.out (by omega) _)
    | true =>
      rw [hr2] at i2
      cases hs1 : hsB H1 with
      | false =>
        have i3 := fun w' hA => areHashes_is H1 false hs1 a1 k1 w' hl1 hA
        have e0 := hid (show E = 52 by rw [← hE.out]; unfold joinE; rw [if_pos ⟨hr1, hr2⟩, if_neg (by rw [hs1]; simp)])
        clear hr1 hr2 hs1 hE A2 p0 p1 p2 q0 q1 q2
        have A1' := fun w' (hb : Below w0.heap.size w0 w') => A1.out.below hb (Nat.le_refl _)
        generalize H1.length = n1 at *
        generalize H2.length = n2 at *
        go_enter Tryd.func11, Tryd.ntmps11
        go_wp2_with (go_at_call 33; fail)
        rw [HW0.out]
        refine i1.mono ?_
        rintro r w1 ⟨rfl, hw1⟩
        have RB1 := RB.out.below hw1
        have q0 := RB1.c0
        have q1 := RB1.c1
        have q2 := RB1.c2
        have RA1 := RA.out.below hw1
        have p0 := RA1.c0
        have p1 := RA1.c1
        have p2 := RA1.c2
        have RR1 := hid (RR.out.below hw1)
        have B1 := hid (HB0.out.trans (hw1.mono HB0.out.size))
        go_wp2_with (go_at_call 33; fail)
        refine (i2 _ hw1).mono ?_
        rintro r w2 ⟨rfl, hw2⟩
        have h12 := hw1.trans (hw2.mono hw1.size)
        have RB2 := RB1.below hw2
        have q0 := RB2.c0
        have q1 := RB2.c1
        have q2 := RB2.c2
        have RA2 := RA1.below hw2
        have p0 := RA2.c0
        have p1 := RA2.c1
        have p2 := RA2.c2
        have RR2 := hid (RR1.out.below hw2)
        have B2 := hid (B1.out.trans (hw2.mono B1.out.size))
        go_wp2_with (first | ((with_reducible show wpList _ _ _ (Oper.mk _ (Op.store 40 _ _) _ _ _ _ :: _) _ _); go_must (refine wpList_store_row rfl 40 _ _ rfl (w.heap.size + 2) _ rfl rfl 40 _ RR2.out.row (sizeRg' _ _ _) rfl (oneRg _ _ _ _ _) ?_)) | (go_at_call 31; refine (i3 _ (A1' _ h12)).mono ?_; rintro r w3 ⟨rfl, rfl⟩))
        refine bodyPost_ret (results_row_tmp rfl _ _ (w.heap.size + 2) 40 _ (0, 0) _ rfl (setRow_heap _ _ _ _ _ _ RR2.out.row) Tryd.underlying40 rfl sizeRg) rfl ?_
        rw [e0.out]
        exact RgP.bad (by omega) (Below.setRow B2.out (by omega) _)
      | true =>
        have i3 := fun w' hA => areHashes_is H1 true hs1 a1 k1 w' hl1 hA
        cases hs2 : hsB H2 with
        | false =>
          have i4 := fun w' hA => areHashes_is H2 false hs2 a2 k2 w' hl2 hA
          have e0 := hid (show E = 52 by rw [← hE.out]; unfold joinE; rw [if_pos ⟨hr1, hr2⟩, if_neg (by rw [hs2]; simp)])
          clear hr1 hr2 hs1 hs2 hE p0 p1 p2 q0 q1 q2
          have A1' := fun w' (hb : Below w0.heap.size w0 w') => A1.out.below hb (Nat.le_refl _)
          have A2' := fun w' (hb : Below w0.heap.size w0 w') => A2.out.below hb (Nat.le_refl _)
          generalize H1.length = n1 at *
          generalize H2.length = n2 at *
          go_enter Tryd.func11, Tryd.ntmps11
          go_wp2_with (go_at_call 33; fail)
          rw [HW0.out]
          refine i1.mono ?_
          rintro r w1 ⟨rfl, hw1⟩
          have RB1 := RB.out.below hw1
          have q0 := RB1.c0
          have q1 := RB1.c1
          have q2 := RB1.c2
          have RA1 := RA.out.below hw1
          have p0 := RA1.c0
          have p1 := RA1.c1
          have p2 := RA1.c2
          have RR1 := hid (RR.out.below hw1)
          have B1 := hid (HB0.out.trans (hw1.mono HB0.out.size))
          go_wp2_with (go_at_call 33; fail)
          refine (i2 _ hw1).mono ?_
          rintro r w2 ⟨rfl, hw2⟩
          have h12 := hw1.trans (hw2.mono hw1.size)
          have RB2 := RB1.below hw2
          have q0 := RB2.c0
          have q1 := RB2.c1
          have q2 := RB2.c2
          have RA2 := RA1.below hw2
          have p0 := RA2.c0
          have p1 := RA2.c1
          have p2 := RA2.c2
          have RR2 := hid (RR1.out.below hw2)
          have B2 := hid (B1.out.trans (hw2.mono B1.out.size))
          go_wp2_with (first | ((with_reducible show wpList _ _ _ (Oper.mk _ (Op.store 40 _ _) _ _ _ _ :: _) _ _); go_must (refine wpList_store_row rfl 40 _ _ rfl (w.heap.size + 2) _ rfl rfl 40 _ RR2.out.row (sizeRg' _ _ _) rfl (oneRg _ _ _ _ _) ?_)) | (go_at_call 31; (with_reducible refine (i3 _ (A1' _ h12)).mono ?_); rintro r w3 ⟨rfl, rfl⟩) | (go_at_call 31; (with_reducible refine (i4 _ (A2' _ h12)).mono ?_); rintro r w4 ⟨rfl, rfl⟩))
          refine bodyPost_ret (results_row_tmp rfl _ _ (w.heap.size + 2) 40 _ (0, 0) _ rfl (setRow_heap _ _ _ _ _ _ RR2.out.row) Tryd.underlying40 rfl sizeRg) rfl ?_
          rw [e0.out]
          exact RgP.bad (by omega) (Below.setRow B2.out (by omega) _)
        | true =>
          have i4 := fun w' hA => areHashes_is H2 true hs2 a2 k2 w' hl2 hA
          have A1' := fun w' (hb : Below w0.heap.size w0 w') => A1.out.below hb (Nat.le_refl _)
          have A2' := fun w' (hb : Below w0.heap.size w0 w') => A2.out.below hb (Nat.le_refl _)
          by_cases he : e1 = b2
          · subst he
            have eE := hid (show E = 0 by rw [← hE.out]; unfold joinE; rw [if_pos ⟨hr1, hr2⟩, if_pos ⟨hs1, hs2⟩, if_pos rfl])
            obtain ⟨A, P, rfl, rfl, hAP, hP, hn1⟩ := rgt_true hr1
            obtain ⟨P', C, hPP, rfl, hPC, hC40, hn2⟩ := rgt_true hr2
            obtain rfl : P = P' := by omega
            clear hPP hr1 hr2 hs1 hs2 hE p0 p1 p2 q0 q1 q2
            rw [eE.out]
            simp only [Int.toNat_natCast]
            obtain ⟨R, hR⟩ : ∃ R, Hid (Cut.joinH A P C H1 H2 = R) := ⟨_, rfl⟩
            rw [hR.out]
            have h81 := Cut.cut_len (a := A) (b := P) hP hAP
            have h82 := Cut.cut_len (a := P) (b := C) hC40 hPC
            have i5 := fun w' hA => fcopied_any H1 a1 k1 w' (by omega) hA
            have i6 := fun w' => spanOf_any (A : Int) (P : Int) (.slice a1 H1.length k1) w'
            have d1 : ((P : Int) != (P : Int)) = false := by simp
            obtain ⟨n1, hm1⟩ : ∃ n1, Hid (H1.length = n1) := ⟨_, rfl⟩
            obtain ⟨n2, hm2⟩ : ∃ n2, Hid (H2.length = n2) := ⟨_, rfl⟩
            rw [hm1.out] at i1 i3 i5 i6 hl1 RA hn1 HW0 ⊢
            rw [hm2.out] at i2 i4 hl2 RB hn2 HW0 ⊢
            have hn81 : n1 ≤ 81 := by omega
            have hn82 : n2 ≤ 81 := by omega
            have hlen1 := hid hn1
            have hlen2 := hid hn2
            clear hn1 hn2 h81 h82
            go_enter Tryd.func11, Tryd.ntmps11
            go_wp2_with (go_at_call 33; fail)
            rw [HW0.out]
            refine i1.mono ?_
            rintro r w1 ⟨rfl, hw1⟩
            have RB1 := RB.out.below hw1
            have q0 := RB1.c0
            have q1 := RB1.c1
            have q2 := RB1.c2
            have RA1 := RA.out.below hw1
            have p0 := RA1.c0
            have p1 := RA1.c1
            have p2 := RA1.c2
            have RR1 := hid (RR.out.below hw1)
            have B1 := hid (HB0.out.trans (hw1.mono HB0.out.size))
            go_wp2_with (go_at_call 33; fail)
            refine (i2 _ hw1).mono ?_
            rintro r w2 ⟨rfl, hw2⟩
            have h12 := hw1.trans (hw2.mono hw1.size)
            have RB2 := RB1.below hw2
            have q0 := RB2.c0
            have q1 := RB2.c1
            have q2 := RB2.c2
            have RA2 := RA1.below hw2
            have p0 := RA2.c0
            have p1 := RA2.c1
            have p2 := RA2.c2
            have RR2 := hid (RR1.out.below hw2)
            have B2 := hid (B1.out.trans (hw2.mono B1.out.size))
            go_wp2_with (first | (go_at_call 31; (with_reducible refine (i3 _ (A1' _ h12)).mono ?_); rintro r w2 ⟨rfl, rfl⟩) | (go_at_call 31; (with_reducible refine (i4 _ (A2' _ h12)).mono ?_); rintro r w2 ⟨rfl, rfl⟩) | (go_at_call 34; fail))
            refine (i5 _ (A1' _ h12)).mono ?_
            rintro r w3 ⟨rfl, hR3, hw3⟩
            have h13 := hid (h12.trans (hw3.mono h12.size))
            have RA3 := hid (RA2.below hw3)
            have RB3 := hid (RB2.below hw3)
            have RR3 := hid (RR2.out.below hw3)
            have HR3 := hid hR3
            have ho := hid (show w0.heap.size ≤ w2.heap.size ∧ w2.heap.size < w3.heap.size from ⟨h12.size, hR3.lt⟩)
            clear p0 p1 p2 q0 q1 q2 RA2 RB2 RR2 RA1 RB1 RR1 RA RB RR hR3 hw3 hw1 hw2 h12 i1 i2 i3 i4 i5 A1 A1' A2' B1 B2
            have r4 := heap_alloc_new w3 (.cells #[Value.slice (some ⟨w2.heap.size, 0, none⟩) n1 n1] 74)
            have b4 := (Below.refl w3.heap.size w3).alloc (Nat.le_refl _) (.cells #[Value.slice (some ⟨w2.heap.size, 0, none⟩) n1 n1] 74)
            have z4 := hid (size_alloc w3 (.cells #[Value.slice (some ⟨w2.heap.size, 0, none⟩) n1 n1] 74))
            have RA4 := RA3.out.below b4
            have p0 := RA4.c0
            have p1 := RA4.c1
            have p2 := RA4.c2
            have B4 := hid b4
            have R4 := hid r4
            clear b4 r4 RA4
            go_wp2_with (go_at_call 35; fail)
            generalize w3.alloc (.cells #[Value.slice (some ⟨w2.heap.size, 0, none⟩) n1 n1] 74) = w4 at *
            have z4 := z4.out
            have b4 := B4.out
            have r4 := R4.out
            refine (i6 _).mono ?_
            rintro r w5 ⟨rfl, hw5⟩
            have b6 := (Below.refl w5.heap.size w5).alloc (Nat.le_refl _) (.cells #[Value.int .i64 (A : Int), Value.int .i64 (P : Int)] 29)
            have S6 := hid (Sp.new w5 A P)
            have z6 := hid (size_alloc w5 (.cells #[Value.int .i64 (A : Int), Value.int .i64 (P : Int)] 29))
            have h46 := hid (hw5.trans (b6.mono hw5.size))
            have h36 := hid (b4.trans (h46.out.mono b4.size))
            have h06 := hid (h13.out.trans (h36.out.mono h13.out.size))
            have s5 := hw5.size
            have hO := ho.out
            have hs0 := hsz.out
            have HRB := hid (RB3.out.below h36.out)
            have HRR := hid (RR3.out.below h36.out)
            have q1 := HRB.out.c1
            have q2 := HRB.out.c2
            have R4 := hid r4
            clear b6 b4 r4 B4 p0 p1 p2 hw5
            go_wp2
            generalize w5.alloc (.cells #[Value.int .i64 (A : Int), Value.int .i64 (P : Int)] 29) = w6 at *
            have z6 := z6.out
            have hc : Hid (Co w6 (fun k => k = w2.heap.size ∨ w6.heap.size ≤ k) w3.heap.size w5.heap.size) := ⟨fun _ h => .inr h, by omega, by omega, by omega, fun k hk => by omega, by omega, by omega, (Z0.out.below h06.out Z0.out.lt).t⟩
            have hc0 : Hid (Cj w6 w6 (fun k => k = w2.heap.size ∨ w6.heap.size ≤ k) w3.heap.size w5.heap.size A P (.slice (some ⟨w2.heap.size, 0, none⟩) n1 n1) H1) := by
              refine ⟨⟨(h46.out.block w3.heap.size (by omega)).trans R4.out, rfl, ?_, fun e => ?_⟩, S6.out, fun k hk => ?_, Keep.refl _ _⟩
              · have := (HR3.out.below h36.out (by omega)).own (by have := hm1.out; omega)
                rwa [hm1.out] at this
              · have e : some w2.heap.size = some w3.heap.size := e
                injection e with e
                omega
              · have hk : some w2.heap.size = some k := hk
                injection hk with hk
                exact .inl hk.symm
            have HB6 := hid (HB0.out.trans (h06.out.mono HB0.out.size))
            clear S6 h46 h36 RA3 RB3 RR3 R4 i6 h13 HR3 ho hsz
            go_loopw [48] (fun i w' => ∃ (j p : Nat) (v : Value) (H : List (List UInt8)), i = .int .i64 (j : Int) ∧ j ≤ n2 ∧ A ≤ p ∧ p ≤ C ∧ Hid ((H2.drop j).length = (Cut.cut p C).length) ∧ Hid (H.length = (Cut.cut A p).length) ∧ Hid (Cut.joinH A p C H (H2.drop j) = R) ∧ Hid (Cj w6 w' (fun k => k = w2.heap.size ∨ w6.heap.size ≤ k) w3.heap.size w5.heap.size A p v H)) (fun i _ => n2 - (intOf i).toNat)
            case atStart =>
              exact ⟨0, P, _, H1, rfl, by omega, hAP, hPC, by unfold Hid; rw [List.drop_zero, hm2.out]; exact hlen2.out, by unfold Hid; rw [hm1.out]; exact hlen1.out, by rw [List.drop_zero]; exact hR, hc0⟩
            case round =>
              clear hc0
              obtain ⟨j, p, v, H, rfl, hj, hAp, hpC, g1, g2, g3, hCj⟩ := hrel
              have s0 := hCj.out.sp.c0
              have s1 := hCj.out.sp.c1
              have Kb : Below w0.heap.size w6 wr := hCj.out.keep.toBelow (by omega) (fun k hk => by rcases hk with e | e | e | e <;> omega)
              have RBr : Rg wr (w.heap.size + 1) (P : Int) (C : Int) (.slice a2 n2 k2) := (Kb.block (w.heap.size + 1) (by omega)).trans HRB.out
              have RRr : Hid (Rg wr (w.heap.size + 2) 0 0 (.slice none 0 0)) := (Kb.block (w.heap.size + 2) (by omega)).trans HRR.out
              have q1 := RBr.c1
              have K0 := hid (h06.out.trans Kb)
              clear Kb
              by_cases hjn : j < n2
              · have c0 : (j : Int) < (n2 : Int) := by omega
                have A5 := A2.out.below K0.out (Nat.le_refl _)
                obtain ⟨y, rfl⟩ := A5.pos (by have := hm2.out; omega)
                obtain ⟨x, hx, hcell⟩ := A5.cell j (by have := hm2.out; omega)
                have hpl : p < C := by
                  rcases Nat.lt_or_ge p C with h | h
                  · exact h
                  · exfalso
                    obtain rfl : p = C := by omega
                    have := g1.out
                    rw [Cut.cut_nil, List.length_drop, hm2.out] at this
                    simp at this
                    omega
                have hdrop : H2.drop j = x.data.toList :: H2.drop (j + 1) := by
                  rw [hx.out]; exact List.drop_eq_getElem_cons _
                have g3' : Hid (Cut.joinH A (p + 2 ^ Cut.lev p C) C (Cut.takeH A p (2 ^ Cut.lev p C) x.data.toList H) (H2.drop (j + 1)) = R) := by
                  unfold Hid
                  have := g3.out
                  rw [hdrop, Cut.join_step hC40 hAp hpl g2.out] at this
                  exact this
                obtain ⟨f1', f2, f3, f4, _⟩ := Cut.grow_facts hC40 hpl
                have hgl := Cut.lev_grow hC40 hpl
                rw [hgl] at f2 f3 f4
                have g1' : Hid ((H2.drop (j + 1)).length = (Cut.cut (p + 2 ^ Cut.lev p C) C).length) := by
                  unfold Hid
                  have := g1.out
                  rw [hdrop, Cut.cut_cons hC40 hpl, hgl] at this
                  simpa using this
                have i7 := firstLevel_any p C hpl hC40 wr (Z0.out.below K0.out Z0.out.lt)
                have i8 := fun w' (hb : Below wr.heap.size wr w') => take_any w3.heap.size A p (Cut.lev p C) _ _ _ _ x.data.toList w' (hCj.out.below hb).nl ((hCj.out.below hb).tabs hc.out) hc.out.tq (fun k hk => hc.out.tl k (hCj.out.own k hk)) (by omega) hAp f2 g2.out
                have g2' : Hid ((Cut.takeH A p (2 ^ Cut.lev p C) x.data.toList H).length = (Cut.cut A (p + 2 ^ Cut.lev p C)).length) := Cut.takeH_length (by omega) hAp ⟨_, rfl⟩ f2 g2.out
                have hl40 := Cut.lev_le hC40 hpl
                have hwp := wrap_pow (L := Cut.lev p C) (by omega)
                have ex : sv x.data.toList = .string x := by cases x; rfl
                rw [ex] at i8
                generalize Cut.takeH A p (2 ^ Cut.lev p C) x.data.toList H = H' at *
                generalize Cut.lev p C = lv at *
                generalize 2 ^ lv = N at *
                clear g1 g2 g3 hx hdrop A5 f2 f1' ex hgl A2
                go_wp2_with (first
                  | ((with_reducible show wpList _ _ _ (Oper.mk _ (Op.load 29 _) _ _ _ _ :: _) _ _); go_must (refine wpList_load_row rfl 29 _ rfl w5.heap.size rfl 29 _ (0, 0) _ C7.out.sp.row Tryd.underlying29 rfl (sizeSp' _ _) ?_))
                  | (go_at_call 36; refine i7.mono ?_; rintro r w7 ⟨rfl, hw7⟩; have C7 := hid (hCj.out.below hw7))
                  | (go_at_call 32; refine (i8 _ hw7).mono ?_; rintro r w8 ⟨rfl, v', hL8, hK8, hv8⟩; obtain ⟨S8, C8⟩ := C7.out.taken (e' := p + N) hc.out hL8 hK8 hv8; have t1 := S8.c1; have u1 := S8.f1))
                have HC8 := hid C8
                have e9 := wrap_sum f3 hC40
                clear C8 hL8 hK8 hv8 hCj C7 S8 s0 s1 q1 RBr hcell i7 i8
                go_region
                all_goals go_wp2
                all_goals
                  exact ⟨⟨j + 1, p + N, v', H', val_succ j, Nat.succ_le_of_lt hjn, Nat.le_trans hAp (Nat.le_add_right _ _), f3, g1', g2', g3', HC8.out.drew⟩, dec_succ hjn⟩
              · obtain rfl : j = n2 := by omega
                have c0 : ¬ (j : Int) < (j : Int) := by omega
                have hd0 : H2.drop j = [] := List.drop_eq_nil_of_le (by have := hm2.out; omega)
                have epC : p = C := by
                  have := g1.out
                  rw [hd0] at this
                  rcases Nat.lt_or_ge p C with h | h
                  · rw [Cut.cut_cons hC40 h] at this; simp at this
                  · omega
                subst epC
                have eR := hid (show R = H by rw [← g3.out, hd0]; exact Cut.join_end g2.out)
                have hl0 := hCj.out.nl.c0
                obtain ⟨va, vn, vc, rfl⟩ := own_sl hCj.out.nl.own
                clear hd0 g1 g2 g3 A2
                go_wp2_with ((with_reducible show wpList _ _ _ (Oper.mk _ (Op.store 40 _ _) _ _ _ _ :: _) _ _); go_must (refine wpList_store_row rfl 40 _ _ rfl (w.heap.size + 2) _ rfl rfl 40 _ RRr.out.row (sizeRg' _ _ _) rfl (oneRg _ _ _ _ _) ?_))
                refine bodyPost_ret (results_row_tmp rfl _ _ (w.heap.size + 2) 40 _ (0, 0) _ rfl (setRow_heap _ _ _ _ _ _ RRr.out.row) Tryd.underlying40 rfl sizeRg) rfl ?_
                have k1 : Keep (fun k => k = w.heap.size + 2) wr (wr.setRow (w.heap.size + 2) #[.int .i64 (A : Int), .int .i64 (p : Int), .slice va vn vc]) := ⟨rfl, rfl, rfl, by rw [setRow_size]; exact Nat.le_refl _, fun k _ hk => setRow_other wr _ k _ hk⟩
                refine RgP.ok ?_ ?_
                · rw [eR.out]
                  refine (hCj.out.nl.own.from (B := w.heap.size) fun k hk => ?_).keep k1 fun k hk e => ?_
                  · have : k = w2.heap.size ∨ w6.heap.size ≤ k := hCj.out.own k hk
                    omega
                  · have : k = w2.heap.size ∨ w6.heap.size ≤ k := hCj.out.own k hk
                    omega
                · exact Below.setRow (HB0.out.trans (K0.out.mono HB0.out.size)) (by omega) _
          · have e0 := hid (show E = 51 by rw [← hE.out]; unfold joinE; rw [if_pos ⟨hr1, hr2⟩, if_pos ⟨hs1, hs2⟩, if_neg he])
            have d1 : (e1 != b2) = true := by simpa using he
            clear hr1 hr2 hs1 hs2 hE p0 p1 p2 q0 q1 q2
            generalize H1.length = n1 at *
            generalize H2.length = n2 at *
            go_enter Tryd.func11, Tryd.ntmps11
            go_wp2_with (go_at_call 33; fail)
            rw [HW0.out]
            refine i1.mono ?_
            rintro r w1 ⟨rfl, hw1⟩
            have RB1 := RB.out.below hw1
            have q0 := RB1.c0
            have q1 := RB1.c1
            have q2 := RB1.c2
            have RA1 := RA.out.below hw1
            have p0 := RA1.c0
            have p1 := RA1.c1
            have p2 := RA1.c2
            have RR1 := hid (RR.out.below hw1)
            have B1 := hid (HB0.out.trans (hw1.mono HB0.out.size))
            go_wp2_with (go_at_call 33; fail)
            refine (i2 _ hw1).mono ?_
            rintro r w2 ⟨rfl, hw2⟩
            have h12 := hw1.trans (hw2.mono hw1.size)
            have RB2 := RB1.below hw2
            have q0 := RB2.c0
            have q1 := RB2.c1
            have q2 := RB2.c2
            have RA2 := RA1.below hw2
            have p0 := RA2.c0
            have p1 := RA2.c1
            have p2 := RA2.c2
            have RR2 := hid (RR1.out.below hw2)
            have B2 := hid (B1.out.trans (hw2.mono B1.out.size))
            go_wp2_with (first | ((with_reducible show wpList _ _ _ (Oper.mk _ (Op.store 40 _ _) _ _ _ _ :: _) _ _); go_must (refine wpList_store_row rfl 40 _ _ rfl (w.heap.size + 2) _ rfl rfl 40 _ RR2.out.row (sizeRg' _ _ _) rfl (oneRg _ _ _ _ _) ?_)) | (go_at_call 31; (with_reducible refine (i3 _ (A1' _ h12)).mono ?_); rintro r w3 ⟨rfl, rfl⟩) | (go_at_call 31; (with_reducible refine (i4 _ (A2' _ h12)).mono ?_); rintro r w4 ⟨rfl, rfl⟩))
            refine bodyPost_ret (results_row_tmp rfl _ _ (w.heap.size + 2) 40 _ (0, 0) _ rfl (setRow_heap _ _ _ _ _ _ RR2.out.row) Tryd.underlying40 rfl sizeRg) rfl ?_
            rw [e0.out]
            exact RgP.bad (by omega) (Below.setRow B2.out (by omega) _)
end Go.Proofs.YthoakchdlidemaaDoor
