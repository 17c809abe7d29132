import Derived.Test.YtblmaokonhdjaaaGreatDoorPkBM4
import Derived.Test.YtblmaokonhdjaaaGreatDoorPkPP7
import Derived.Test.YtblmaokonhdjaaaGreatDoorPkO46
/- Layer 14, the law: known -/
namespace Go.Proofs.YtblmaokonhdjaaaGreatDoor
open Go.RowKit Go.Shelf
namespace Spn
theorem at_two14 (w : World) (x z : List UInt8) : At (w.alloc (.cells #[.string ⟨x.toArray⟩, .string ⟨z.toArray⟩] 9)) (some ⟨w.heap.size, 0, none⟩) [x, z] := fun j p hp => by
  have h := heap_alloc_new w (.cells #[.string ⟨x.toArray⟩, .string ⟨z.toArray⟩] 9)
  refine ⟨_, rfl, lt_of_heap h, ?_⟩
  rw [Addr.add_mid, Nat.zero_add, cell_of_row _ _ _ _ _ _ h]
  match j, hp with
  | 0, hp => simp at hp; subst hp; rfl
  | 1, hp => simp at hp; subst hp; rfl
  | j + 2, hp => simp at hp
theorem at_one14 (w : World) (x : List UInt8) : At (w.alloc (.cells #[.string ⟨x.toArray⟩] 9)) (some ⟨w.heap.size, 0, none⟩) [x] := fun j p hp => by
  have h := heap_alloc_new w (.cells #[.string ⟨x.toArray⟩] 9)
  refine ⟨_, rfl, lt_of_heap h, ?_⟩
  rw [Addr.add_mid, Nat.zero_add, cell_of_row _ _ _ _ _ _ h]
  match j, hp with
  | 0, hp => simp at hp; subst hp; rfl
  | j + 1, hp => simp at hp
theorem run212 : Tree.runF 2 0 2 1 2 = [(0, 1)] := by decide
theorem tol212 (x y : List UInt8) : tolS [x, y] 2 1 2 = [x] := by unfold tolS; rw [run212]; rfl
set_option maxRecDepth 100000 in
set_option maxHeartbeats 4000000 in
theorem known14_any (w : World) (Z : Tb w) : Calls Tryz.prog 6 #[] w fun e w' => e = .returned (.bool true) ∧ Below w.heap.size w w' := by
  have i1 := fun w' => lleaf_at 1 (lf 1) rfl w'
  have i2 := fun w' => lleaf_at 2 (lf 2) rfl w'
  have hx := lf_length 1
  have hy := lf_length 2
  generalize lf 1 = x at *
  generalize lf 2 = y at *
  have HZ := hid Z
  have hT := Z.lt
  have H32 : Hid (x.length = 32 ∧ y.length = 32) := ⟨hx, hy⟩
  simp only [show sv x = .string ⟨x.toArray⟩ from rfl] at i1
  simp only [show sv y = .string ⟨y.toArray⟩ from rfl] at i2
  clear Z hx hy
  go_enter Tryz.func6, Tryz.ntmps6
  go_wp2_with (first
    | (go_at_call 10; (first
      | ((with_reducible refine (i1 _).mono ?_); rintro r w1 ⟨rfl, b1⟩)
      | ((with_reducible refine (i2 _).mono ?_); rintro r w2 ⟨rfl, b2⟩)))
    | (go_at_call 23; fail))
  have B2 : Hid (Below w.heap.size w w2) := b1.trans (b2.mono b1.size)
  have ba := (Below.refl w2.heap.size w2).alloc (Nat.le_refl _) (.cells #[.string ⟨x.toArray⟩, .string ⟨y.toArray⟩] 9)
  have B2' := hid (B2.out.trans (ba.mono B2.out.size))
  have hHs : Hid (Tree.Hs [x, y]) := fun q hq => by
    have := H32.out
    simp only [List.mem_cons, List.not_mem_nil, or_false] at hq
    rcases hq with rfl | rfl
    · exact this.1
    · exact this.2
  have j4 := Bat.planted12_any 0 [x, y] hHs.out (by simp) (some ⟨w2.heap.size, 0, none⟩) 2 _ (by omega) (by omega) (at_two14 w2 x y) (HZ.out.below B2'.out hT)
  rw [show ([x, y] : List (List UInt8)).length = 2 from rfl] at j4
  with_reducible refine j4.mono ?_
  rintro r w4 ⟨q, h, F, rfl, t4, _, b4⟩
  have B4 := hid (B2'.out.trans (b4.mono B2'.out.size))
  have T4 := hid t4
  clear j4 ba B2' B2 b1 b2 b4 t4
  have j5 := prove14_ok T4.out (HZ.out.below B4.out hT) 2 1 2 (by omega) (by omega) (by simp)
  rw [tol212] at j5
  simp only [show ((2 : Nat) : Int) = 2 from rfl, show ((1 : Nat) : Int) = 1 from rfl] at j5
  go_wp2_with (go_at_call 24; fail)
  with_reducible refine j5.mono ?_
  rintro r w5 ⟨gh, rfl, r5, _, b5⟩
  have B5 := hid (B4.out.trans (b5.mono B4.out.size))
  have T5 := hid (T4.out.below b5)
  have R5 := hid r5
  clear j5 r5 b5 T4 B4
  rw [show ([x] : List (List UInt8)).length = 1 from rfl]
  simp only [show ((2 : Nat) : Int) = 2 from rfl, show ((1 : Nat) : Int) = 1 from rfl]
  have ba5 := (Below.refl w5.heap.size w5).alloc (Nat.le_refl _) (.cells #[.int .i64 2, .int .i64 1, .int .i64 2, .slice (some ⟨gh, 0, none⟩) 1 1] 24)
  have S6 := hid (RnI.new w5 2 1 2 (.slice (some ⟨gh, 0, none⟩) 1 1))
  have B6 := hid (B5.out.trans (ba5.mono B5.out.size))
  have T6 := hid (T5.out.below ba5)
  have R6 := hid (R5.out.below ba5 R5.out.lt)
  clear ba5 B5 T5 R5
  go_upto_region 5 with fail
  generalize w5.alloc (.cells #[.int .i64 2, .int .i64 1, .int .i64 2, .slice (some ⟨gh, 0, none⟩) 1 1] 24) = w6 at *
  have jR := tRoot_any T6.out 2 (HZ.out.below B6.out hT) (show Hid (tPartO [x, y] 0 2 = (Tree.root [x, y], 0)) from tPartO_all)
  rw [show sv (Tree.root [x, y]) = Value.string ⟨(Tree.root [x, y]).toArray⟩ from rfl] at jR
  obtain ⟨val, V, hv⟩ := tol_val (L := [x, y]) (n := 2) (s := 1) (e := 2) (by omega) (by omega) (by simp)
  rw [tol212, show lvR [x, y] 1 2 = [y] from rfl] at V
  rw [show List.take 2 [x, y] = [x, y] from rfl] at hv
  have hy8 : hsB8 [x] = true := by simp [hsB8, H32.out.1]
  have hx8 : hsB8 [y] = true := by simp [hsB8, H32.out.2]
  go_wp2_with (go_at_call 25; fail)
  with_reducible refine jR.mono ?_
  rintro r w7 ⟨rfl, b7⟩
  have S7 := hid (S6.out.below b7)
  have B7 := hid (B6.out.trans (b7.mono B6.out.size))
  have R7 := hid (R6.out.below b7 R6.out.lt)
  clear jR b7 S6 B6 R6 T6
  have jE := fun w' (hb : Below w7.heap.size w7 w') => root14_ok 2 1 2 [x] [y] val V (by omega) (by omega) (by omega) (by simp) (by simp) hy8 hx8 (some ⟨gh, 0, none⟩) (some ⟨w'.heap.size, 0, none⟩) 1 1 (w'.alloc (.cells #[.string ⟨y.toArray⟩] 9)) (R7.out.at.below (hb.alloc hb.size _) (Nat.le_refl _)) (at_one14 w' y) (HZ.out.below (B7.out.trans ((hb.alloc hb.size _).mono B7.out.size)) hT)
  rw [hv] at jE
  simp only [show ([x] : List (List UInt8)).length = 1 from rfl, show ([y] : List (List UInt8)).length = 1 from rfl, show ((2 : Nat) : Int) = 2 from rfl, show ((1 : Nat) : Int) = 1 from rfl, show sv (Tree.root [x, y]) = Value.string ⟨(Tree.root [x, y]).toArray⟩ from rfl] at jE
  generalize Tree.root [x, y] = rr at *
  have mkS : ∀ w', Below w7.heap.size w7 w' → w'.cell? ⟨w5.heap.size, 0, none⟩ = some (.int .i64 2) ∧ w'.cell? ⟨w5.heap.size, 1, none⟩ = some (.int .i64 1) ∧ w'.cell? ⟨w5.heap.size, 2, none⟩ = some (.int .i64 2) ∧ w'.cell? ⟨w5.heap.size, 3, none⟩ = some (.slice (some ⟨gh, 0, none⟩) 1 1) := fun w' hb => ⟨(S7.out.below hb).c0, (S7.out.below hb).c1, (S7.out.below hb).c2, (S7.out.below hb).c3⟩
  have e7 := mkS w7.drew (Below.refl _ w7).drew
  go_upto_region 6 with fail
  go_region_held3 (fun w' => w'.cell? ⟨w5.heap.size, 0, none⟩ = some (.int .i64 2) ∧ w'.cell? ⟨w5.heap.size, 1, none⟩ = some (.int .i64 1) ∧ w'.cell? ⟨w5.heap.size, 2, none⟩ = some (.int .i64 2) ∧ w'.cell? ⟨w5.heap.size, 3, none⟩ = some (.slice (some ⟨gh, 0, none⟩) 1 1)) (first | exact e10 | exact e8a | exact e8 | exact e7)
    (first
      | (go_at_call 10; (with_reducible refine (i2 _).mono ?_); rintro r w8 ⟨rfl, b8'⟩; have b8 := drewBelow8 b8'; have e8 := mkS w8 b8; have b8a := b8.alloc b8.size (.cells #[.string ⟨y.toArray⟩] 9); have e8a := mkS _ b8a; have j10 := jE w8 b8)
      | (go_at_call 26; (with_reducible refine j10.mono ?_); rintro r w10 ⟨rfl, b10'⟩; have b10 := b8a.trans (b10'.mono b8a.size); have e10 := mkS w10 b10))
  have B10 := hid (B7.out.trans (b10.mono B7.out.size))
  have S10 := hid (S7.out.below b10)
  have R10 := hid (R7.out.below b10 R7.out.lt)
  clear mkS e7 e8 e8a e10 b8 b8' b8a b10 b10' jE j10 B7 S7 R7 V hv
  have jN := newJoiner_ok 0 1 (by omega) (by omega) w10
  simp only [show ((0 : Nat) : Int) = 0 from rfl, show ((1 : Nat) : Int) = 1 from rfl] at jN
  go_wp2_with (go_at_call 15; fail)
  with_reducible refine jN.mono ?_
  rintro r w11 ⟨g, rfl, J11, g11, b11⟩
  have ba11 := (Below.refl w11.heap.size w11).alloc (Nat.le_refl _) (.cells #[.string ⟨#[97]⟩] 9)
  have glt := lt_of_heap J11
  have jT := jTake_ok (a := 0) (e := 1) (J11.below ba11) (Ls := []) (OwnM.nil 1 _) (by intro h; cases h) (by simp) [[97]] (by simp) (by simp) (by omega) (fun z hz => by simp at hz; subst hz; simp) (some ⟨w11.heap.size, 0, none⟩) 1 (at_one14 w11 [97]) (fun z hz => by cases hz; exact ⟨by show w11.heap.size ≠ g; omega, by intro h; cases h⟩)
  simp only [show ((0 : Nat) : Int) = 0 from rfl, show ([[97]] : List (List UInt8)).length = 1 from rfl] at jT
  have B11 := hid (B10.out.trans (b11.mono B10.out.size))
  have S11 := hid (S10.out.below b11)
  have R11 := hid (R10.out.below b11 R10.out.lt)
  have BA11 := hid ba11
  have Z11 := hid g11
  have zz := hid B10.out.size
  have hne5 : w5.heap.size ≠ g := by have := lt_of_heap S10.out; omega
  have hneh : gh ≠ g := by have := R10.out.lt; omega
  clear jN b11 J11 B10 S10 R10 ba11 g11
  go_wp2_with (go_at_call 20; fail)
  with_reducible refine jT.mono ?_
  rintro r w12 ⟨rfl, v12, J12, O12, V12, K12⟩
  have k12 : Keep (fun k => k = g) (w11.alloc (.cells #[.string ⟨#[97]⟩] 9)) w12 := ⟨K12.os, K12.tape, K12.output, K12.size, fun k hk hs => K12.block k hk (fun h => by rcases h with h | h; exact hs h; cases h)⟩
  have S12 := hid ((S11.out.below BA11.out).keep k12 hne5)
  have R12 : Hid (Row w12 gh [x]) := (k12.block gh (Nat.lt_of_lt_of_le R11.out.lt BA11.out.size) hneh).trans (R11.out.below BA11.out R11.out.lt)
  have b12 := (B11.out.trans (BA11.out.mono B11.out.size))
  have B12 := hid (b12.trans (keep_below14 k12 b12.size (fun k hk => by have := Z11.out; have := B11.out.size; have := zz.out; omega)))
  have jL := jEntries J12 O12 (by simp)
  have HJ := hid J12
  clear K12 k12 O12 V12 J12 S11 R11 B11 BA11 jT b12
  go_wp2_with (go_at_call 22; fail)
  with_reducible refine jL.mono ?_
  rintro r w13 ⟨v13, rfl, o13, _, b13⟩
  obtain ⟨aE, cE, hv13, hat, _, _⟩ := ownM_at o13
  subst hv13
  simp only [show (([] : List (List UInt8)) ++ [[97]]).length = 1 from rfl]
  obtain ⟨y13, rfl, hb13, hc13⟩ := hat 0 [97] rfl
  have hc13' : w13.cell? y13 = some (.string ⟨#[97]⟩) := hc13
  have J13 := hid (HJ.out.below b13)
  have S13 := hid (S12.out.below b13)
  have R13 := hid (R12.out.below b13 R12.out.lt)
  have B13 := hid (B12.out.trans (b13.mono B12.out.size))
  have C13 := hid hc13'
  clear hat o13 b13 HJ S12 R12 B12 jL hc13 hc13'
  have hxx : ((ByteArray.mk x.toArray).toList == (ByteArray.mk x.toArray).toList) = true := by simp
  have hrr : ((ByteArray.mk rr.toArray).toList == (ByteArray.mk rr.toArray).toList) = true := by simp
  have haa : ((ByteArray.mk #[97]).toList == (ByteArray.mk #[97]).toList) = true := by simp
  have mkS : ∀ w', Below w13.heap.size w13 w' → w'.cell? ⟨w5.heap.size, 3, none⟩ = some (.slice (some ⟨gh, 0, none⟩) 1 1) ∧ w'.cell? ⟨gh, 0, none⟩ = some (.string ⟨x.toArray⟩) ∧ w'.cell? y13 = some (.string ⟨#[97]⟩) := fun w' hb => ⟨(S13.out.below hb).c3, (R13.out.below hb R13.out.lt).cell (j := 0) rfl, (hb.cell hb13).trans C13.out⟩
  have e13 := mkS w13.drew (Below.refl _ w13).drew
  have jD := fun w' (hb : Below w13.heap.size w13 w') => jDone (J13.out.below hb) true (by rfl)
  go_upto_region 12 with fail
  go_region_held3 (fun w' => w'.cell? ⟨w5.heap.size, 3, none⟩ = some (.slice (some ⟨gh, 0, none⟩) 1 1) ∧ w'.cell? ⟨gh, 0, none⟩ = some (.string ⟨x.toArray⟩) ∧ w'.cell? y13 = some (.string ⟨#[97]⟩)) (first | exact e15 | exact e14 | exact e13)
    (first
      | (go_at_call 10; (with_reducible refine (i1 _).mono ?_); rintro r w14 ⟨rfl, b14'⟩; have b14 := drewBelow8 b14'; have e14 := mkS w14 b14)
      | (go_at_call 18; (with_reducible refine (jD _ b14).mono ?_); rintro r w15 ⟨rfl, m15, hw15⟩; have b15 : Below w13.heap.size w13 w15 := b14.trans (by rw [hw15]; exact (drewN_below m15).mono b14.size); clear hw15; have e15 := mkS w15 b15))
  all_goals
    have BE := hid (B13.out.trans (b15.mono B13.out.size))
    clear mkS e13 e14 e15 b15 jD
    go_wp2
    go_ret
    exact ⟨rfl, BE.out⟩
end Spn
end Go.Proofs.YtblmaokonhdjaaaGreatDoor

/- Layer 14, the law: two lists that are lent, whatever stands in them -/
namespace Go.Proofs.YtblmaokonhdjaaaGreatDoor
open Go.RowKit Go.Shelf
namespace Spn
structure Tw (w0 w : World) (gh gl nH nL : Nat) : Prop where
  bl : Below w0.heap.size w0 w
  g1 : w0.heap.size ≤ gh
  g2 : w0.heap.size ≤ gl
  ne : gh ≠ gl
  ex : ∃ A C : List (List UInt8), A.length = nH ∧ C.length = nL ∧ Row w gh (A ++ behind 8) ∧ Row w gl (C ++ behind 8)
def Bt (gh gl k : Nat) : Prop := k = gh ∨ k = gl
theorem Tw.lt {w0 w : World} {gh gl nH nL : Nat} (h : Tw w0 w gh gl nH nL) : gh < w.heap.size ∧ gl < w.heap.size := by
  obtain ⟨A, C, _, _, h1, h2⟩ := h.ex
  exact ⟨h1.lt, h2.lt⟩
theorem Tw.below {w0 w w' : World} {gh gl nH nL : Nat} (h : Tw w0 w gh gl nH nL) (hb : Below w.heap.size w w') : Tw w0 w' gh gl nH nL := by
  obtain ⟨A, C, a1, a2, h1, h2⟩ := h.ex
  exact ⟨h.bl.trans (hb.mono h.bl.size), h.g1, h.g2, h.ne, A, C, a1, a2, h1.below hb h1.lt, h2.below hb h2.lt⟩
theorem row_other {w : World} {H g k : Nat} {L : List (List UInt8)} (h : Row w H L) (hn : H ≠ g) (v : Value) : Row (w.setCell ⟨g, k, none⟩ v) H L := by
  unfold Row; rw [heap_setCell_other _ _ _ _ hn]; exact h
theorem Tw.setH {w0 w : World} {gh gl nH nL : Nat} (h : Tw w0 w gh gl nH nL) {i : Nat} (hi : i < nH) (p : List UInt8) : Tw w0 (w.setCell ⟨gh, i, none⟩ (sv p)) gh gl nH nL := by
  obtain ⟨A, C, a1, a2, h1, h2⟩ := h.ex
  refine ⟨h.bl.setCell (p := ⟨gh, i, none⟩) h.g1 _, h.g1, h.g2, h.ne, A.set i p, C, by rw [List.length_set]; exact a1, a2, ?_, row_other h2 (Ne.symm h.ne) _⟩
  have := h1.set i p
  rwa [List.set_append_left _ _ (by omega)] at this
theorem Tw.setL {w0 w : World} {gh gl nH nL : Nat} (h : Tw w0 w gh gl nH nL) {i : Nat} (hi : i < nL) (p : List UInt8) : Tw w0 (w.setCell ⟨gl, i, none⟩ (sv p)) gh gl nH nL := by
  obtain ⟨A, C, a1, a2, h1, h2⟩ := h.ex
  refine ⟨h.bl.setCell (p := ⟨gl, i, none⟩) h.g2 _, h.g1, h.g2, h.ne, A, C.set i p, a1, by rw [List.length_set]; exact a2, row_other h1 h.ne _, ?_⟩
  have := h2.set i p
  rwa [List.set_append_left _ _ (by omega)] at this
/-- a place of the first one, as it is written to -/
theorem Tw.cellH {w0 w : World} {gh gl nH nL : Nat} (h : Tw w0 w gh gl nH nL) {i : Nat} (hi : i < nH) : (∃ p, w.cell? ⟨gh, i, none⟩ = some (sv p)) ∧ w.frozen? ⟨gh, i, none⟩ = false := by
  obtain ⟨A, C, a1, a2, h1, h2⟩ := h.ex
  exact ⟨⟨_, h1.cell (List.getElem?_eq_getElem (show i < (A ++ behind 8).length by rw [List.length_append]; omega))⟩, h1.free (by rw [List.length_append]; omega)⟩
theorem Tw.cellL {w0 w : World} {gh gl nH nL : Nat} (h : Tw w0 w gh gl nH nL) {i : Nat} (hi : i < nL) : (∃ p, w.cell? ⟨gl, i, none⟩ = some (sv p)) ∧ w.frozen? ⟨gl, i, none⟩ = false := by
  obtain ⟨A, C, a1, a2, h1, h2⟩ := h.ex
  exact ⟨⟨_, h2.cell (List.getElem?_eq_getElem (show i < (C ++ behind 8).length by rw [List.length_append]; omega))⟩, h2.free (by rw [List.length_append]; omega)⟩
theorem row_at {w : World} {H : Nat} {L M : List (List UInt8)} (h : Row w H (L ++ M)) : At w (some ⟨H, 0, none⟩) L := by
  have := h.at.take L.length
  rwa [List.take_left] at this
theorem keep_bt {w w' : World} {gh gl g i : Nat} (h : Keep (Bt gh gl) w w') (hg : Bt gh gl g) (v : Value) : Keep (Bt gh gl) w (w'.setCell ⟨g, i, none⟩ v) := h.trans (Keep.ofSet (S := Bt gh gl) _ g i _ hg) fun _ _ e => e
/-- a text of a list that lies apart -/
theorem at_kept {w w' : World} {a : Option Addr} {l : List (List UInt8)} {gh gl : Nat} (h : At w a l) (hk : Keep (Bt gh gl) w w') (hd : ∀ x, a = some x → x.block ≠ gh ∧ x.block ≠ gl) : At w' a l := At.keep14 h hk fun x hx e => e.elim (hd x hx).1 (hd x hx).2
theorem own_at14 {w : World} {B : Nat} {v : Value} {L : List (List UInt8)} (h : Own w B v (svs L)) : ∃ a c, v = .slice a L.length c ∧ At w a L ∧ L.length ≤ c ∧ c ≤ 9223372036854775807 ∧ ∀ x, a = some x → B ≤ x.block := by
  have h0 := h
  obtain ⟨a, c, rfl, h1, h2, h3⟩ := h.at
  refine ⟨a, c, rfl, h1, h2, h3, fun x hx => ?_⟩
  subst hx
  rcases h0 with ⟨h, _⟩ | ⟨g, cap, h, hB, _⟩
  · cases h
  · injection h with e1 e2 e3
    obtain rfl := Option.some.inj e1
    exact hB
end Spn
end Go.Proofs.YtblmaokonhdjaaaGreatDoor
