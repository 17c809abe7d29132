import Derived.Test.YtdbbemcddhgbcaaGreatDoorPpNG7
import Derived.Test.YtdbbemcddhgbcaaGreatDoorPpND9
/- Layer 22: the document's Parse (written by genNQ8.py) -/
namespace Go.Proofs.YtdbbemcddhgbcaaGreatDoor
open Go.RowKit Go.Shelf
namespace Nt
theorem rline_any {w : World} {t : Nr} {a : Option Addr} {n c k : Nat} (hn : t.S.length = n) (ho : Wz.OwnM 2 w (.slice a n c) n (sgs t.S)) (l : ByteArray) (hl : l.size ≤ 70368744177664) (h16 : n ≤ 16) (hok : allOk t.S = true) : Calls Tryz.prog 42 #[nv t.O t.z t.R (.slice a n c), .int .i64 (k : Int), .string l] w fun q w' => LnQ t k l w (.slice a n c) q w' := by
  rcases (show k = 0 ∨ k = 1 ∨ k = 2 ∨ k = 3 ∨ 4 ≤ k by omega) with rfl | rfl | rfl | rfl | h4
  · exact rline_0 hn ho l (by omega)
  · exact rline_1 hn ho l
  · exact rline_2 hn ho l hl
  · exact rline_3 hn ho l
  · exact rline_4 hn ho l hl h4 h16 hok
/-- all but one list's block is as it was -/
structure Ks (v : Value) (w w' : World) : Prop where
  os : w'.os = w.os
  tape : w'.tape = w.tape
  output : w'.output = w.output
  size : w.heap.size ≤ w'.heap.size
  old : ∀ k, k < w.heap.size → v.ownBlock ≠ some k → w'.heap[k]? = w.heap[k]?
theorem Ks.alloc {v : Value} {w w' : World} (h : Ks v w w') (o : Obj) : Ks v w (w'.alloc o) := by
  have b := (Below.refl w'.heap.size w').alloc (Nat.le_refl _) o
  exact ⟨b.os.trans h.os, b.tape.trans h.tape, b.output.trans h.output, Nat.le_trans h.size b.size, fun k hk hn => (b.block k (Nat.lt_of_lt_of_le hk h.size)).trans (h.old k hk hn)⟩
theorem Ks.grow {v v' : Value} {w w' w2 : World} (h : Ks v w w') (g : Wz.Grow w' w2 v v') : Ks v w w2 :=
  ⟨g.os.trans h.os, g.tape.trans h.tape, g.output.trans h.output, Nat.le_trans h.size g.size, fun k hk hn => (g.old k (Nat.lt_of_lt_of_le hk h.size) hn).trans (h.old k hk hn)⟩
theorem Ks.setRow {v : Value} {w w' : World} (h : Ks v w w') {g : Nat} (hg : w.heap.size ≤ g) (cs : Array Value) : Ks v w (w'.setRow g cs) := by
  have b := (But.refl g w').setRow cs
  have b2 := Below.setRow (Below.refl w.heap.size w') hg cs
  exact ⟨b2.os.trans h.os, b2.tape.trans h.tape, b2.output.trans h.output, Nat.le_trans h.size b2.size, fun k hk hn => (b2.block k hk).trans (h.old k hk hn)⟩
theorem Ks.drew0 (v : Value) (w : World) : Ks v w w.drew := ⟨rfl, rfl, rfl, Nat.le_refl _, fun _ _ _ => rfl⟩
theorem Ks.toGrow {v v' : Value} {w w' : World} (h : Ks v w w') (ha : v'.ownBlock = v.ownBlock ∨ ((∀ k, v'.ownBlock = some k → w.heap.size ≤ k) ∧ ∀ k, k < w.heap.size → w'.heap[k]? = w.heap[k]?)) : Wz.Grow w w' v v' := ⟨h.os, h.tape, h.output, h.size, h.old, ha⟩
theorem own_at {w : World} {base n c : Nat} {a : Option Addr} {cs : List Value} {j : Nat} {u : Value} (h : Own w base (.slice a n c) cs) (hu : cs[j]? = some u) : ∃ g, a = some ⟨g, 0, none⟩ ∧ w.cell? ⟨g, j, none⟩ = some u := by
  rcases h with ⟨h1, h2⟩ | ⟨g, cap, h1, _, _, _, h4, _⟩
  · rw [h2] at hu; simp at hu
  · injection h1 with h1
    refine ⟨g, h1, ?_⟩
    have := h4 j u hu
    rwa [Nat.zero_add] at this
/-- while the document reads line by line -/
structure Pr (w : World) (g2 gn : Nat) (vL : Value) (A : List ByteArray) (r : List UInt8) (P : Option Nr × Nat) (j : Nat) (t : Nr) (v : Value) (wr : World) : Prop where
  b : Below g2 w wr
  x : Bx wr gn t.O t.z t.R v
  z : Bx wr g2 ⟨#[]⟩ 0 ⟨#[]⟩ (.slice none 0 0)
  o : Wz.OwnM 2 wr v t.S.length (sgs t.S)
  f : ∀ k, v.ownBlock = some k → gn < k
  l : Own wr g2 vL (tbs A)
  lf : ∀ k, vL.ownBlock = some k → g2 < k ∧ k < gn
  gg : g2 < gn
  p : P = prsL j t (bsL (A.drop j)) r
  n16 : t.S.length ≤ 16
  ok : allOk t.S = true
  j : j ≤ A.length
theorem stp_ok {k : Nat} {t t1 : Nr} {l : ByteArray} (h : stp k t l = some t1) (hS : t.S.length ≤ 16) (hok : allOk t.S = true) : t1.S.length ≤ 16 ∧ allOk t1.S = true := by
  refine ⟨stp_few h hS, ?_⟩
  unfold stp at h
  split at h
  · split at h
    · cases h; exact hok
    · cases h
  · split at h
    · split at h
      · cases h; exact hok
      · cases h
    · split at h
      · split at h
        · cases h; exact hok
        · cases h
      · split at h
        · split at h
          · cases h; exact hok
          · cases h
        · split at h
          · rename_i h9; cases h; exact h9.2.2
          · cases h
theorem Pr.keeps {w wr w' : World} {g2 gn j : Nat} {vL v : Value} {A : List ByteArray} {r : List UInt8} {P : Option Nr × Nat} {t : Nr} (h : Pr w g2 gn vL A r P j t v wr) (ks : Ks v wr w') : Below g2 w w' ∧ Bx w' gn t.O t.z t.R v ∧ Bx w' g2 ⟨#[]⟩ 0 ⟨#[]⟩ (.slice none 0 0) ∧ Own w' g2 vL (tbs A) := by
  have hl := lt_of_heap h.x
  have hl2 := lt_of_heap h.z
  have hg := h.gg
  have no : ∀ k, k ≤ gn → v.ownBlock ≠ some k := fun k hk e => by have := h.f k e; omega
  refine ⟨⟨ks.os.trans h.b.os, ks.tape.trans h.b.tape, ks.output.trans h.b.output, Nat.le_trans h.b.size ks.size, fun k hk => (ks.old k (by omega) (no k (by omega))).trans (h.b.block k hk)⟩, h.x.kept (ks.old gn hl (no gn (Nat.le_refl _))), h.z.kept (ks.old g2 hl2 (no g2 (by omega))), h.l.kept ks.size fun k hk => ?_⟩
  have := h.lf k hk
  exact ks.old k (by omega) (no k (by omega))
theorem Pr.stop {w wr : World} {g2 gn j : Nat} {vL v : Value} {A : List ByteArray} {r : List UInt8} {P : Option Nr × Nat} {t : Nr} {x : ByteArray} (h : Pr w g2 gn vL A r P j t v wr) (hx : A[j]? = some x) (hst : stp j t x = none) : P = (none, j) := by
  have hj := (List.getElem?_eq_some_iff.1 hx).1
  have e := (List.getElem?_eq_some_iff.1 hx).2
  rw [h.p, List.drop_eq_getElem_cons hj, e]
  show prsL j t (x.data.toList :: bsL (A.drop (j + 1))) r = _
  unfold prsL
  have e2 : (⟨x.data.toList.toArray⟩ : ByteArray) = x := rfl
  rw [e2, hst]
theorem Pr.go {w wr : World} {g2 gn j : Nat} {vL v : Value} {A : List ByteArray} {r : List UInt8} {P : Option Nr × Nat} {t t1 : Nr} {x : ByteArray} (h : Pr w g2 gn vL A r P j t v wr) (hx : A[j]? = some x) (hst : stp j t x = some t1) : P = prsL (j + 1) t1 (bsL (A.drop (j + 1))) r := by
  have hj := (List.getElem?_eq_some_iff.1 hx).1
  have e := (List.getElem?_eq_some_iff.1 hx).2
  rw [h.p, List.drop_eq_getElem_cons hj, e]
  show prsL j t (x.data.toList :: bsL (A.drop (j + 1))) r = _
  rw [prsL]
  have e2 : (⟨x.data.toList.toArray⟩ : ByteArray) = x := rfl
  rw [e2, hst]
theorem Pr.next {w wr w' : World} {g2 gn j gx : Nat} {vL v v2 : Value} {A : List ByteArray} {r : List UInt8} {P : Option Nr × Nat} {t t1 : Nr} {x : ByteArray} (h : Pr w g2 gn vL A r P j t v wr) (ks : Ks v wr w') (hx : A[j]? = some x) (hst : stp j t x = some t1) (o : Wz.OwnM 2 w' v2 t1.S.length (sgs t1.S)) (hne : ∀ k, v2.ownBlock = some k → gn < k ∧ k ≠ gx) : Pr w g2 gn vL A r P (j + 1) t1 v2 (w'.setRow gn #[.string t1.O, .int .i64 t1.z, .string t1.R, v2]) := by
  obtain ⟨k1, k2, k3, k4⟩ := h.keeps ks
  have hg := h.gg
  have bb := (But.refl gn w').setRow #[.string t1.O, .int .i64 t1.z, .string t1.R, v2]
  refine ⟨Below.setRow k1 (by omega) _, setRow_heap _ _ _ _ _ _ k2, k3.kept (bb.block g2 (lt_of_heap k3) (by omega)), o.kept bb.size (fun k hk => bb.block k (o.lt k hk) (by have := (hne k hk).1; omega)), fun k hk => (hne k hk).1, k4.kept bb.size (fun k hk => bb.block k (Own.lt' k4 k hk) (by have := h.lf k hk; omega)), h.lf, hg, h.go hx hst, (stp_ok hst h.n16 h.ok).1, (stp_ok hst h.n16 h.ok).2, (List.getElem?_eq_some_iff.1 hx).1⟩
theorem Pr.done {w wr : World} {g2 gn : Nat} {vL v : Value} {A : List ByteArray} {r : List UInt8} {P : Option Nr × Nat} {t : Nr} (h : Pr w g2 gn vL A r P A.length t v wr) : P = if r = [] ∧ 4 ≤ A.length then (some t, A.length) else (none, A.length) := by
  rw [h.p, List.drop_length]
  rfl
set_option linter.unusedSimpArgs false in
set_option maxRecDepth 100000 in
set_option maxHeartbeats 8000000 in
theorem rparse_any (s : ByteArray) (hs : s.size ≤ 1900000) (w : World) : Calls Tryz.prog 23 #[.string s] w fun q w' => PsQ w.heap.size (psA s) q w' ∧ Below w.heap.size w w' := by
  have b0 := (Below.refl w.heap.size w).alloc (Nat.le_refl _) (.cells #[.string ⟨#[]⟩, .int .i64 0, .string ⟨#[]⟩, .slice none 0 0] 26)
  have x0 := Bx.new w ⟨#[]⟩ 0 ⟨#[]⟩ (.slice none 0 0)
  obtain ⟨W, hW⟩ : ∃ W, w.alloc (.cells #[.string ⟨#[]⟩, .int .i64 0, .string ⟨#[]⟩, .slice none 0 0] 26) = W := ⟨_, rfl⟩
  have hz : W.heap.size = w.heap.size + 1 := by rw [← hW, size_alloc]
  rw [hW] at b0 x0
  obtain ⟨g2, hg2⟩ : ∃ g, w.heap.size = g := ⟨_, rfl⟩
  rw [hg2] at b0 x0 hz
  have i1 := rlines_any s hs W
  have e9 := psA_prsL s
  have hsub := brk_sub s.data.toList
  have hlen := brk_len s.data.toList
  rw [dlen] at hsub hlen
  generalize psA s = P at *
  generalize brkL s.data.toList = LL at *
  obtain ⟨LS, RR⟩ := LL
  simp only at i1 e9 hsub hlen
  have HE := hid e9
  have HSUB := hid hsub
  have HLEN := hid hlen
  have HSZ := hid hs
  have HW := hid hW
  have HG2 := hid hg2
  have HZ := hid hz
  have HB0 := hid b0
  have HX0 := hid x0
  rw [hg2]
  clear hW hg2 hz b0 x0 e9 hsub hlen hs
  go_enter Tryz.func23, Tryz.ntmps23
  go_upto_region 1 with fail
  rw [HW.out, HG2.out]
  go_upto_region 3 with (first
    | (go_at_call 41; (refine i1.mono ?_); rintro q w1 ⟨⟨vL, A, rfl, hA, hO⟩, b1⟩; have S4 := hid (Bx.new w1 ⟨#[]⟩ 0 ⟨#[]⟩ (.slice none 0 0)))
    | ((with_reducible show wpList _ _ _ (Oper.mk _ (Op.store 26 _ _) _ _ _ _ :: _) _ _); go_must (refine wpList_store_row rfl 26 _ _ rfl w1.heap.size _ rfl rfl 26 _ S4.out (sizeNt22 _ _ _ _) rfl (oneNt22 _ _ _ _ _ _) ?_)))
  obtain ⟨gn, hgn⟩ : ∃ g, w1.heap.size = g := ⟨_, rfl⟩
  have B9 : Below w1.heap.size w1 ((w1.alloc (.cells #[.string ⟨#[]⟩, .int .i64 0, .string ⟨#[]⟩, .slice none 0 0] 26)).setRow w1.heap.size #[.string ⟨#[]⟩, .int .i64 0, .string ⟨#[]⟩, .slice none 0 0]) := Below.setRow ((Below.refl _ _).alloc (Nat.le_refl _) _) (Nat.le_refl _) _
  have X9 : Bx ((w1.alloc (.cells #[.string ⟨#[]⟩, .int .i64 0, .string ⟨#[]⟩, .slice none 0 0] 26)).setRow w1.heap.size #[.string ⟨#[]⟩, .int .i64 0, .string ⟨#[]⟩, .slice none 0 0]) w1.heap.size ⟨#[]⟩ 0 ⟨#[]⟩ (.slice none 0 0) := setRow_heap _ _ _ _ _ _ S4.out
  obtain ⟨V, hV⟩ : ∃ V, (w1.alloc (.cells #[.string ⟨#[]⟩, .int .i64 0, .string ⟨#[]⟩, .slice none 0 0] 26)).setRow w1.heap.size #[.string ⟨#[]⟩, .int .i64 0, .string ⟨#[]⟩, .slice none 0 0] = V := ⟨_, rfl⟩
  rw [hV] at B9 X9 ⊢
  have hlL := Own.lt' hO
  have hge := hO.ge
  rw [hgn] at X9 hlL ⊢
  have HP0 : Hid (Pr w g2 gn vL A RR P 0 nr0 (.slice none 0 0) V) := by
    have hz := HZ.out
    have hw1 := b1.size
    have hb : Below g2 w V := HB0.out.trans ((b1.trans (B9.mono b1.size)).mono (by omega))
    refine ⟨hb, X9, HX0.out.below (b1.trans (B9.mono b1.size)), Wz.OwnM.nil 2 _, fun k hk => (by cases hk), ?_, fun k hk => ⟨?_, hlL k hk⟩, by omega, ?_, Nat.zero_le _, rfl, Nat.zero_le _⟩
    · exact (hO.below B9 (by omega)).mono (by omega)
    · have := hge k hk; omega
    · rw [HE.out, List.drop_zero, hA]
  have HA := hid hA
  obtain ⟨aL, cL, hvL⟩ := Own.shape hO
  have htl : (tbs A).length = A.length := tbs_len A
  rw [htl] at hvL
  subst hvL
  have HAL := hid (show A.length ≤ 1900000 by
    have : (bsL A).length ≤ s.size := by rw [HA.out]; exact HLEN.out
    unfold bsL at this
    rw [List.length_map] at this
    have := HSZ.out
    omega)
  have hAL : (A.length : Int) ≤ 1900000 := by have := HAL.out; omega
  clear hA hO b1 S4 hgn B9 X9 hV hlL hge htl
  go_wp2
  go_loopw [8, 9, 10] (fun i _ _ wr => ∃ (j : Nat) (t : Nr) (v : Value), j ≤ A.length ∧ i = .int .i64 (j : Int) ∧ Hid (Pr w g2 gn (.slice aL A.length cL) A RR P j t v wr)) (fun i _ _ _ => A.length - (intOf i).toNat)
  case atStart => exact ⟨0, nr0, _, by omega, rfl, HP0⟩
  case round =>
    obtain ⟨j, t, v, hj, rfl, hP⟩ := hrel
    by_cases hjn : j < A.length
    · have hj0 : (j : Int) < (A.length : Int) := by omega
      have hj1 : (0 : Int) ≤ (j : Int) := by omega
      obtain ⟨x, hx⟩ : ∃ x, A[j]? = some x := ⟨_, List.getElem?_eq_getElem hjn⟩
      obtain ⟨gL, rfl, hcL⟩ := own_at hP.out.l (show (tbs A)[j]? = some (.string x) by unfold tbs; rw [List.getElem?_map, hx]; rfl)
      obtain ⟨av, cv, rfl, -, -⟩ := hP.out.o.shape
      have hxs : x.size ≤ 70368744177664 := by
        have h1 : x.data.toList ∈ LS := by rw [← HA.out]; exact List.mem_map.2 ⟨x, List.mem_of_getElem? hx, rfl⟩
        have h2 := HSUB.out _ h1
        rw [dlen] at h2
        have := HSZ.out
        omega
      obtain ⟨n, hn⟩ : ∃ n, t.S.length = n := ⟨_, rfl⟩
      have HO := hP.out.o
      rw [hn] at HO hP
      have hf := hP.out.f
      have hlf := hP.out.lf gL rfl
      have hd := hP.out.x
      obtain ⟨ob, hob⟩ : ∃ b, (stp j t x).isSome = b := ⟨_, rfl⟩
      have hgnlt := lt_of_heap hd
      have CS : Hid (∀ w', Ks (.slice av n cv) wr w' → w'.cell? ⟨gn, 0, none⟩ = some (.string t.O) ∧ w'.cell? ⟨gn, 1, none⟩ = some (.int .i64 t.z) ∧ w'.cell? ⟨gn, 2, none⟩ = some (.string t.R) ∧ w'.cell? ⟨gn, 3, none⟩ = some (.slice av n cv) ∧ w'.cell? ⟨gL, j, none⟩ = some (.string x)) := fun w' hk => by
        have y := hd.kept (hk.old gn hgnlt (fun e => by have := hf gn e; omega))
        refine ⟨y.c0, y.c1, y.c2, y.c3, ?_⟩
        have e9 := hk.old gL (by omega) (fun e => by have := hf gL e; omega)
        unfold World.cell? at hcL ⊢
        rw [e9]
        exact hcL
      have iL : Hid (∀ w', Below wr.heap.size wr w' → Calls Tryz.prog 42 #[.agg #[.string t.O, .int .i64 t.z, .string t.R, .slice av n cv], .int .i64 (j : Int), .string x] w' fun q w'' => ∃ t' a' n' c', q = .returned (.tuple #[.agg #[.string t'.O, .int .i64 t'.z, .string t'.R, .slice a' n' c'], .bool ob]) ∧ (∀ t1, stp j t x = some t1 → t' = t1 ∧ Wz.OwnM 2 w'' (.slice a' n' c') t1.S.length (sgs t1.S)) ∧ Wz.Grow w' w'' (.slice av n cv) (.slice a' n' c')) := fun w' b => by
        have h9 := rline_any (k := j) hn (HO.below b) x hxs (by rw [← hn]; exact hP.out.n16) hP.out.ok
        unfold LnQ nv at h9
        rw [hob] at h9
        exact h9
      have HVL := hid HO.lt
      have HPF := hid hf
      have HGN := hid hgnlt
      have HN := hid hn
      have HOB := hid hob
      have HX := hid hx
      have B0 := hid (Ks.drew0 (.slice av n cv) wr)
      clear hn hob hd hf hlf HO hgnlt hcL hxs hx
      go_upto_region 6 with fail
      refine wp_region_noPanic ?_
      refine wp_region_held_drew (S := fun W' => W'.cell? ⟨gn, 0, none⟩ = some (.string t.O) ∧ W'.cell? ⟨gn, 1, none⟩ = some (.int .i64 t.z) ∧ W'.cell? ⟨gn, 2, none⟩ = some (.string t.R) ∧ W'.cell? ⟨gn, 3, none⟩ = some (.slice av n cv) ∧ W'.cell? ⟨gL, j, none⟩ = some (.string x)) (by kernel_rfl) (CS.out _ B0.out) (fun hHeld => ?_)
      refine wpAnyH_take (i := 0) (oi := ⟨some 24, _, _, _, _, _⟩) (v := ?vPT0) rfl (by kernel_rfl) (by kernel_rfl) (by kernel_rfl) (fun _ _ _ h => h) (Or.inl ⟨by rfl, ?hyPT0⟩) (by assumption) ?restPT0
      case hyPT0 => (intro w hSw; (try dsimp only at hSw); go_simp <;> (try with_reducible rfl))
      try simp only [Act.put, List.setIfInBounds_toArray, List.set_cons_zero, List.set_cons_succ]
      refine wpAnyH_take (i := 1) (oi := ⟨some 25, _, _, _, _, _⟩) (v := ?vPT1) rfl (by kernel_rfl) (by kernel_rfl) (by kernel_rfl) (fun _ _ _ h => h) (Or.inl ⟨by rfl, ?hyPT1⟩) (by assumption) ?restPT1
      case hyPT1 => (intro w hSw; (try dsimp only at hSw); go_simp <;> (try with_reducible rfl))
      try simp only [Act.put, List.setIfInBounds_toArray, List.set_cons_zero, List.set_cons_succ]
      refine wpAnyH_take (i := 2) (oi := ⟨some 26, _, _, _, _, _⟩) (v := ?vPT2) rfl (by kernel_rfl) (by kernel_rfl) (by kernel_rfl) (fun _ _ _ h => h) (Or.inl ⟨by rfl, ?hyPT2⟩) (by assumption) ?restPT2
      case hyPT2 => (intro w hSw; (try dsimp only at hSw); go_simp <;> (try with_reducible rfl))
      try simp only [Act.put, List.setIfInBounds_toArray, List.set_cons_zero, List.set_cons_succ]
      refine wpAnyH_take (i := 3) (oi := ⟨some 27, _, _, _, _, _⟩) (v := ?vPT3) rfl (by kernel_rfl) (by kernel_rfl) (by kernel_rfl) (fun _ _ _ h => h) (Or.inl ⟨by rfl, ?hyPT3⟩) (by assumption) ?restPT3
      case hyPT3 => (intro w hSw; (try dsimp only at hSw); go_simp <;> (try with_reducible rfl))
      try simp only [Act.put, List.setIfInBounds_toArray, List.set_cons_zero, List.set_cons_succ]
      refine wpAnyH_take (i := 4) (oi := ⟨some 28, _, _, _, _, _⟩) (v := ?vPT4) rfl (by kernel_rfl) (by kernel_rfl) (by kernel_rfl) (fun _ _ _ h => h) (Or.inl ⟨by rfl, ?hyPT4⟩) (by assumption) ?restPT4
      case hyPT4 => (intro w hSw; (try dsimp only at hSw); go_simp <;> (try with_reducible rfl))
      try simp only [Act.put, List.setIfInBounds_toArray, List.set_cons_zero, List.set_cons_succ]
      refine wpAnyH_take (i := 5) (oi := ⟨some 29, _, _, _, _, _⟩) (v := ?vPT5) rfl (by kernel_rfl) (by kernel_rfl) (by kernel_rfl) (fun _ _ _ h => h) (Or.inl ⟨by rfl, ?hyPT5⟩) (by assumption) ?restPT5
      case hyPT5 => (intro w hSw; (try dsimp only at hSw); go_simp <;> (try with_reducible rfl))
      try simp only [Act.put, List.setIfInBounds_toArray, List.set_cons_zero, List.set_cons_succ]
      refine wpAnyH_ready (rs := [6, 10]) (by kernel_rfl) (by simp) ?_
      refine AllReadyH.cons (o := ⟨some 30, _, _, _, _, _⟩) rfl (fun K hK => ?_) (AllReadyH.cons (o := ⟨some 9, _, _, _, _, _⟩) rfl (fun K hK => ?_) AllReadyH.nil)
      · go_simp
        go_at_call 42
        refine (iL.out _ (bw_drew wr)).mono ?_
        rintro q u1 ⟨t2, a2, n2, c2, rfl, hT, gr⟩
        have Bu1 := hid (B0.out.grow gr)
        clear hHeld
        refine hK.out _ _ ?hSP16 (fun hHeld => ?restP16)
        case hSP16 => exact CS.out _ Bu1.out
        clear hK K
        try simp only [Act.put, List.setIfInBounds_toArray, List.set_cons_zero, List.set_cons_succ]
        refine wpAnyH_take (i := 7) (oi := ⟨some 23, _, _, _, _, _⟩) (v := ?vP1x7) rfl (by kernel_rfl) (by kernel_rfl) (by kernel_rfl) (fun _ _ _ h => h) (Or.inl ⟨by rfl, ?hyP1x7⟩) (by assumption) ?restP1x7
        case hyP1x7 => (intro w hSw; (try dsimp only at hSw); go_simp <;> (try with_reducible rfl))
        try simp only [Act.put, List.setIfInBounds_toArray, List.set_cons_zero, List.set_cons_succ]
        refine wpAnyH_take (i := 8) (oi := ⟨some 31, _, _, _, _, _⟩) (v := ?vP1x8) rfl (by kernel_rfl) (by kernel_rfl) (by kernel_rfl) (fun _ _ _ h => h) (Or.inl ⟨by rfl, ?hyP1x8⟩) (by assumption) ?restP1x8
        case hyP1x8 => (intro w hSw; (try dsimp only at hSw); go_simp <;> (try with_reducible rfl))
        try simp only [Act.put, List.setIfInBounds_toArray, List.set_cons_zero, List.set_cons_succ]
        refine wpAnyH_take (i := 9) (oi := ⟨some 32, _, _, _, _, _⟩) (v := ?vP1x9) rfl (by kernel_rfl) (by kernel_rfl) (by kernel_rfl) (fun _ _ _ h => h) (Or.inl ⟨by rfl, ?hyP1x9⟩) (by assumption) ?restP1x9
        case hyP1x9 => (intro w hSw; (try dsimp only at hSw); go_simp <;> (try with_reducible rfl))
        try simp only [Act.put, List.setIfInBounds_toArray, List.set_cons_zero, List.set_cons_succ]
        refine wpAnyH_ready (rs := [10]) (by kernel_rfl) (by simp) ?_
        refine AllReadyH.cons (o := ⟨some 9, _, _, _, _, _⟩) rfl (fun K hK => ?_) AllReadyH.nil
        go_simp
        have Ba2 := hid (Bu1.out.alloc (.cells #[.string ⟨#[]⟩, .int .i64 0, .string ⟨#[]⟩, .slice none 0 0] 26))
        have Xa2 := hid (Bx.new (u1) ⟨#[]⟩ 0 ⟨#[]⟩ (.slice none 0 0))
        have Ga2 := hid (Bu1.out.size)
        clear hHeld
        refine hK.out _ _ ?hSP210 (fun hHeld => ?restP210)
        case hSP210 => exact CS.out _ Ba2.out
        clear hK K
        try simp only [Act.put, List.setIfInBounds_toArray, List.set_cons_zero, List.set_cons_succ]
        refine wpAnyH_ready (rs := [11]) (by kernel_rfl) (by simp) ?_
        refine AllReadyH.cons (o := ⟨none, _, _, _, _, _⟩) rfl (fun K hK => ?_) AllReadyH.nil
        refine step_store_row22 rfl 26 _ _ rfl _ #[.string t2.O, .int .i64 t2.z, .string t2.R, .slice a2 n2 c2] ?hx ?hy 26 _ Xa2.out (sizeNt22 _ _ _ _) rfl (oneNt22 _ _ _ _ _ _) ?_
        case hx => go_simp
        case hy => go_simp
        have BF := hid (Ba2.out.setRow Ga2.out #[.string t2.O, .int .i64 t2.z, .string t2.R, .slice a2 n2 c2])
        clear hHeld
        refine hK.out _ _ ?hSPA11 (fun hHeld => ?restPA11)
        case hSPA11 => exact CS.out _ BF.out
        clear hK K
        try simp only [Act.put, List.setIfInBounds_toArray, List.set_cons_zero, List.set_cons_succ]
        refine wpAnyH_take (i := 12) (oi := ⟨some 10, _, _, _, _, _⟩) (v := ?vPAz12) rfl (by kernel_rfl) (by kernel_rfl) (by kernel_rfl) (fun _ _ _ h => h) (Or.inl ⟨by rfl, ?hyPAz12⟩) (by assumption) ?restPAz12
        case hyPAz12 => (intro w hSw; (try dsimp only at hSw); go_simp <;> (try with_reducible rfl))
        try simp only [Act.put, List.setIfInBounds_toArray, List.set_cons_zero, List.set_cons_succ]
        refine wpAnyH_done (by kernel_rfl) ?_ _
        refine NoPanic.normal ?_
        clear hHeld
        have XF : Bx ((u1.alloc (.cells #[.string ⟨#[]⟩, .int .i64 0, .string ⟨#[]⟩, .slice none 0 0] 26)).setRow u1.heap.size #[.string t2.O, .int .i64 t2.z, .string t2.R, .slice a2 n2 c2]) u1.heap.size t2.O t2.z t2.R (.slice a2 n2 c2) := setRow_heap _ _ _ _ _ _ Xa2.out
        have OC : ∀ t1, stp j t x = some t1 → t2 = t1 ∧ Wz.OwnM 2 ((u1.alloc (.cells #[.string ⟨#[]⟩, .int .i64 0, .string ⟨#[]⟩, .slice none 0 0] 26)).setRow u1.heap.size #[.string t2.O, .int .i64 t2.z, .string t2.R, .slice a2 n2 c2]) (.slice a2 n2 c2) t1.S.length (sgs t1.S) ∧ ∀ k, (Value.slice a2 n2 c2).ownBlock = some k → gn < k ∧ k ≠ u1.heap.size := fun t1 e => by
          obtain ⟨e1, o1⟩ := hT t1 e
          have hne : ∀ k, (Value.slice a2 n2 c2).ownBlock = some k → gn < k ∧ k ≠ u1.heap.size := fun k hk => by
            have hgn := HGN.out
            have hlt9 := o1.lt k hk
            rcases gr.alt with e9 | ⟨e9, _⟩
            · rw [hk] at e9
              have h1 := HPF.out k e9.symm
              have h2 := HVL.out k e9.symm
              exact ⟨h1, fun e => by (have h3 : k = u1.heap.size := e); (have h4 : wr.heap.size ≤ u1.heap.size := Ga2.out); omega⟩
            · have h1 := e9 k hk
              refine ⟨?_, fun e => ?_⟩
              · exact Nat.lt_of_lt_of_le hgn h1
              · exact Nat.ne_of_lt hlt9 e
          have bb := (But.refl u1.heap.size (u1.alloc (.cells #[.string ⟨#[]⟩, .int .i64 0, .string ⟨#[]⟩, .slice none 0 0] 26))).setRow #[.string t2.O, .int .i64 t2.z, .string t2.R, .slice a2 n2 c2]
          have o1 := o1.alloc (.cells #[.string ⟨#[]⟩, .int .i64 0, .string ⟨#[]⟩, .slice none 0 0] 26)
          exact ⟨e1, o1.kept bb.size (fun k hk => bb.block k (o1.lt k hk) (hne k hk).2), hne⟩
        have hgx : wr.heap.size ≤ u1.heap.size := Ga2.out
        obtain ⟨wF, hwF⟩ : ∃ wF, (u1.alloc (.cells #[.string ⟨#[]⟩, .int .i64 0, .string ⟨#[]⟩, .slice none 0 0] 26)).setRow u1.heap.size #[.string t2.O, .int .i64 t2.z, .string t2.R, .slice a2 n2 c2] = wF := ⟨_, rfl⟩
        obtain ⟨gx, hgx9⟩ : ∃ gx, u1.heap.size = gx := ⟨_, rfl⟩
        unfold Hid at BF
        rw [hwF] at XF OC BF ⊢
        rw [hgx9] at XF OC hgx ⊢
        clear hwF hgx9 hT gr
        have BF := hid BF
        have XF := hid XF
        have HGX := hid hgx
        clear hgx
        clear CS iL
        obtain ⟨ks1, ks2, ks3, ks4⟩ := hP.out.keeps BF.out
        have y1 := hid ks1
        have y2 := hid ks2
        have y3 := hid ks3
        clear ks1 ks2 ks3 ks4
        cases hst : stp j t x with
        | none =>
          have hob : ob = false := by rw [← HOB.out, hst]; rfl
          subst hob
          have hPn := hid (hP.out.stop HX.out hst)
          clear hst OC
          go_wp2_with ((with_reducible show wpList _ _ _ (Oper.mk _ (Op.store 26 _ _) _ _ _ _ :: _) _ _); go_must (refine wpList_store_row rfl 26 _ _ rfl g2 _ rfl rfl 26 _ y3.out (sizeNt22 _ _ _ _) rfl (oneNt22 _ _ _ _ _ _) ?_))
          refine bodyPost_ret (results_row_tmp2_22 rfl _ _ g2 26 _ (0, 0) _ rfl (setRow_heap _ _ _ _ _ _ y3.out) Tryz.underlying26 rfl (sizeNt22 _ _ _ _)) rfl ⟨?_, Below.setRow y1.out (Nat.le_refl _) _⟩
          rw [hPn.out]
          exact PsQ.no rfl
        | some t1 =>
          have hob : ob = true := by rw [← HOB.out, hst]; rfl
          subst hob
          obtain ⟨e1, o1, hne⟩ := OC t1 hst
          subst e1
          have e0 := XF.out.c0
          have e1 := XF.out.c1
          have e2 := XF.out.c2
          have e3 := XF.out.c3
          have HPN := hid (hP.out.next BF.out HX.out hst o1 hne)
          clear hst OC o1 hne
          go_wp2_with ((with_reducible show wpList _ _ _ (Oper.mk _ (Op.store 26 _ _) _ _ _ _ :: _) _ _); go_must (refine wpList_store_row rfl 26 _ _ rfl gn _ rfl rfl 26 _ y2.out (sizeNt22 _ _ _ _) rfl (oneNt22 _ _ _ _ _ _) ?_))
          exact ⟨⟨j + 1, t2, .slice a2 n2 c2, by omega, by go_num, HPN⟩, by simp [intOf]; omega⟩
      · go_simp
        have Ba3 := hid (B0.out.alloc (.cells #[.string ⟨#[]⟩, .int .i64 0, .string ⟨#[]⟩, .slice none 0 0] 26))
        have Xa3 := hid (Bx.new (wr.drew) ⟨#[]⟩ 0 ⟨#[]⟩ (.slice none 0 0))
        have Ga3 := hid (B0.out.size)
        clear hHeld
        refine hK.out _ _ ?hSP310 (fun hHeld => ?restP310)
        case hSP310 => exact CS.out _ Ba3.out
        clear hK K
        try simp only [Act.put, List.setIfInBounds_toArray, List.set_cons_zero, List.set_cons_succ]
        refine wpAnyH_ready (rs := [6]) (by kernel_rfl) (by simp) ?_
        refine AllReadyH.cons (o := ⟨some 30, _, _, _, _, _⟩) rfl (fun K hK => ?_) AllReadyH.nil
        go_simp
        go_at_call 42
        refine (iL.out _ ((bw_drew wr).alloc (Nat.le_refl _) (.cells #[.string ⟨#[]⟩, .int .i64 0, .string ⟨#[]⟩, .slice none 0 0] 26))).mono ?_
        rintro q u4 ⟨t2, a2, n2, c2, rfl, hT, gr⟩
        have Bu4 := hid (Ba3.out.grow gr)
        have Xu4 := hid (Xa3.out.kept (gr.old _ (lt_of_heap Xa3.out) (fun e => Nat.lt_irrefl _ (Nat.lt_of_lt_of_le (HVL.out _ e) Ga3.out))))
        clear hHeld
        refine hK.out _ _ ?hSP46 (fun hHeld => ?restP46)
        case hSP46 => exact CS.out _ Bu4.out
        clear hK K
        try simp only [Act.put, List.setIfInBounds_toArray, List.set_cons_zero, List.set_cons_succ]
        refine wpAnyH_take (i := 7) (oi := ⟨some 23, _, _, _, _, _⟩) (v := ?vP4x7) rfl (by kernel_rfl) (by kernel_rfl) (by kernel_rfl) (fun _ _ _ h => h) (Or.inl ⟨by rfl, ?hyP4x7⟩) (by assumption) ?restP4x7
        case hyP4x7 => (intro w hSw; (try dsimp only at hSw); go_simp <;> (try with_reducible rfl))
        try simp only [Act.put, List.setIfInBounds_toArray, List.set_cons_zero, List.set_cons_succ]
        refine wpAnyH_take (i := 8) (oi := ⟨some 31, _, _, _, _, _⟩) (v := ?vP4x8) rfl (by kernel_rfl) (by kernel_rfl) (by kernel_rfl) (fun _ _ _ h => h) (Or.inl ⟨by rfl, ?hyP4x8⟩) (by assumption) ?restP4x8
        case hyP4x8 => (intro w hSw; (try dsimp only at hSw); go_simp <;> (try with_reducible rfl))
        try simp only [Act.put, List.setIfInBounds_toArray, List.set_cons_zero, List.set_cons_succ]
        refine wpAnyH_take (i := 9) (oi := ⟨some 32, _, _, _, _, _⟩) (v := ?vP4x9) rfl (by kernel_rfl) (by kernel_rfl) (by kernel_rfl) (fun _ _ _ h => h) (Or.inl ⟨by rfl, ?hyP4x9⟩) (by assumption) ?restP4x9
        case hyP4x9 => (intro w hSw; (try dsimp only at hSw); go_simp <;> (try with_reducible rfl))
        try simp only [Act.put, List.setIfInBounds_toArray, List.set_cons_zero, List.set_cons_succ]
        refine wpAnyH_ready (rs := [11]) (by kernel_rfl) (by simp) ?_
        refine AllReadyH.cons (o := ⟨none, _, _, _, _, _⟩) rfl (fun K hK => ?_) AllReadyH.nil
        refine step_store_row22 rfl 26 _ _ rfl _ #[.string t2.O, .int .i64 t2.z, .string t2.R, .slice a2 n2 c2] ?hx ?hy 26 _ Xu4.out (sizeNt22 _ _ _ _) rfl (oneNt22 _ _ _ _ _ _) ?_
        case hx => go_simp
        case hy => go_simp
        have BF := hid (Bu4.out.setRow Ga3.out #[.string t2.O, .int .i64 t2.z, .string t2.R, .slice a2 n2 c2])
        clear hHeld
        refine hK.out _ _ ?hSPB11 (fun hHeld => ?restPB11)
        case hSPB11 => exact CS.out _ BF.out
        clear hK K
        try simp only [Act.put, List.setIfInBounds_toArray, List.set_cons_zero, List.set_cons_succ]
        refine wpAnyH_take (i := 12) (oi := ⟨some 10, _, _, _, _, _⟩) (v := ?vPBz12) rfl (by kernel_rfl) (by kernel_rfl) (by kernel_rfl) (fun _ _ _ h => h) (Or.inl ⟨by rfl, ?hyPBz12⟩) (by assumption) ?restPBz12
        case hyPBz12 => (intro w hSw; (try dsimp only at hSw); go_simp <;> (try with_reducible rfl))
        try simp only [Act.put, List.setIfInBounds_toArray, List.set_cons_zero, List.set_cons_succ]
        refine wpAnyH_done (by kernel_rfl) ?_ _
        refine NoPanic.normal ?_
        clear hHeld
        have XF : Bx (u4.setRow wr.drew.heap.size #[.string t2.O, .int .i64 t2.z, .string t2.R, .slice a2 n2 c2]) wr.drew.heap.size t2.O t2.z t2.R (.slice a2 n2 c2) := setRow_heap _ _ _ _ _ _ Xu4.out
        have OC : ∀ t1, stp j t x = some t1 → t2 = t1 ∧ Wz.OwnM 2 (u4.setRow wr.drew.heap.size #[.string t2.O, .int .i64 t2.z, .string t2.R, .slice a2 n2 c2]) (.slice a2 n2 c2) t1.S.length (sgs t1.S) ∧ ∀ k, (Value.slice a2 n2 c2).ownBlock = some k → gn < k ∧ k ≠ wr.drew.heap.size := fun t1 e => by
          obtain ⟨e1, o1⟩ := hT t1 e
          have hne : ∀ k, (Value.slice a2 n2 c2).ownBlock = some k → gn < k ∧ k ≠ wr.drew.heap.size := fun k hk => by
            have hgn := HGN.out
            have hlt9 := o1.lt k hk
            rcases gr.alt with e9 | ⟨e9, _⟩
            · rw [hk] at e9
              have h1 := HPF.out k e9.symm
              have h2 := HVL.out k e9.symm
              exact ⟨h1, fun e => by (have h3 : k = wr.drew.heap.size := e); (have h4 : wr.heap.size ≤ wr.drew.heap.size := Ga3.out); omega⟩
            · have h1 := e9 k hk
              refine ⟨?_, fun e => ?_⟩
              · (have h6 := h1; rw [size_alloc] at h6; exact Nat.lt_of_lt_of_le hgn (Nat.le_trans (Nat.le_succ _) h6))
              · (have h5 : wr.drew.heap.size + 1 ≤ k := (by have h6 := h1; rw [size_alloc] at h6; exact h6)); (have h7 : k = wr.drew.heap.size := e); omega
          have bb := (But.refl wr.drew.heap.size u4).setRow #[.string t2.O, .int .i64 t2.z, .string t2.R, .slice a2 n2 c2]
          have o1 := o1
          exact ⟨e1, o1.kept bb.size (fun k hk => bb.block k (o1.lt k hk) (hne k hk).2), hne⟩
        have hgx : wr.heap.size ≤ wr.heap.size := Ga3.out
        obtain ⟨wF, hwF⟩ : ∃ wF, u4.setRow wr.drew.heap.size #[.string t2.O, .int .i64 t2.z, .string t2.R, .slice a2 n2 c2] = wF := ⟨_, rfl⟩
        obtain ⟨gx, hgx9⟩ : ∃ gx, wr.heap.size = gx := ⟨_, rfl⟩
        unfold Hid at BF
        rw [hwF] at XF OC BF ⊢
        rw [show wr.drew.heap.size = wr.heap.size from rfl] at XF OC; rw [hgx9] at XF OC ⊢; (replace hgx : wr.heap.size ≤ gx := Nat.le_of_eq hgx9)
        clear hwF hgx9 hT gr
        have BF := hid BF
        have XF := hid XF
        have HGX := hid hgx
        clear hgx
        clear CS iL
        obtain ⟨ks1, ks2, ks3, ks4⟩ := hP.out.keeps BF.out
        have y1 := hid ks1
        have y2 := hid ks2
        have y3 := hid ks3
        clear ks1 ks2 ks3 ks4
        cases hst : stp j t x with
        | none =>
          have hob : ob = false := by rw [← HOB.out, hst]; rfl
          subst hob
          have hPn := hid (hP.out.stop HX.out hst)
          clear hst OC
          go_wp2_with ((with_reducible show wpList _ _ _ (Oper.mk _ (Op.store 26 _ _) _ _ _ _ :: _) _ _); go_must (refine wpList_store_row rfl 26 _ _ rfl g2 _ rfl rfl 26 _ y3.out (sizeNt22 _ _ _ _) rfl (oneNt22 _ _ _ _ _ _) ?_))
          refine bodyPost_ret (results_row_tmp2_22 rfl _ _ g2 26 _ (0, 0) _ rfl (setRow_heap _ _ _ _ _ _ y3.out) Tryz.underlying26 rfl (sizeNt22 _ _ _ _)) rfl ⟨?_, Below.setRow y1.out (Nat.le_refl _) _⟩
          rw [hPn.out]
          exact PsQ.no rfl
        | some t1 =>
          have hob : ob = true := by rw [← HOB.out, hst]; rfl
          subst hob
          obtain ⟨e1, o1, hne⟩ := OC t1 hst
          subst e1
          have e0 := XF.out.c0
          have e1 := XF.out.c1
          have e2 := XF.out.c2
          have e3 := XF.out.c3
          have HPN := hid (hP.out.next BF.out HX.out hst o1 hne)
          clear hst OC o1 hne
          go_wp2_with ((with_reducible show wpList _ _ _ (Oper.mk _ (Op.store 26 _ _) _ _ _ _ :: _) _ _); go_must (refine wpList_store_row rfl 26 _ _ rfl gn _ rfl rfl 26 _ y2.out (sizeNt22 _ _ _ _) rfl (oneNt22 _ _ _ _ _ _) ?_))
          exact ⟨⟨j + 1, t2, .slice a2 n2 c2, by omega, by go_num, HPN⟩, by simp [intOf]; omega⟩
    · obtain rfl : j = A.length := by omega
      have hjn' : ¬ (A.length : Int) < (A.length : Int) := by omega
      obtain ⟨av, cv, rfl, -, -⟩ := hP.out.o.shape
      have hPd := hid hP.out.done
      have hZ := hid hP.out.z
      have e0 := hP.out.x.c0
      have e1 := hP.out.x.c1
      have e2 := hP.out.x.c2
      have e3 := hP.out.x.c3
      by_cases hr : RR = []
      · subst hr
        have hq : (⟨([] : List UInt8).toArray⟩ : ByteArray) = ⟨#[]⟩ := rfl
        by_cases h4 : 4 ≤ A.length
        · have h4' : ¬ (A.length : Int) < 4 := by omega
          go_wp2_with ((with_reducible show wpList _ _ _ (Oper.mk _ (Op.store 26 _ _) _ _ _ _ :: _) _ _); go_must (refine wpList_store_row rfl 26 _ _ rfl g2 _ rfl rfl 26 _ hZ.out (sizeNt22 _ _ _ _) rfl (oneNt22 _ _ _ _ _ _) ?_))
          refine bodyPost_ret (results_row_tmp2_22 rfl _ _ g2 26 _ (0, 0) _ rfl (setRow_heap _ _ _ _ _ _ hZ.out) Tryz.underlying26 rfl (sizeNt22 _ _ _ _)) rfl ⟨?_, Below.setRow hP.out.b (Nat.le_refl _) _⟩
          have e9 := hPd.out
          rw [if_pos (And.intro (by first | trivial | rfl) h4)] at e9
          rw [e9]
          refine ⟨_, rfl, ?_, fun k hk => Nat.le_of_lt (Nat.lt_trans hP.out.gg (hP.out.f k hk))⟩
          have bb := (But.refl g2 wr).setRow #[.string t.O, .int .i64 t.z, .string t.R, .slice av t.S.length cv]
          exact hP.out.o.kept bb.size (fun k hk => bb.block k (hP.out.o.lt k hk) (by have h1 := hP.out.f k hk; have h2 := hP.out.gg; omega))
        · have h4' : (A.length : Int) < 4 := by omega
          go_wp2_with ((with_reducible show wpList _ _ _ (Oper.mk _ (Op.store 26 _ _) _ _ _ _ :: _) _ _); go_must (refine wpList_store_row rfl 26 _ _ rfl g2 _ rfl rfl 26 _ hZ.out (sizeNt22 _ _ _ _) rfl (oneNt22 _ _ _ _ _ _) ?_))
          refine bodyPost_ret (results_row_tmp2_22 rfl _ _ g2 26 _ (0, 0) _ rfl (setRow_heap _ _ _ _ _ _ hZ.out) Tryz.underlying26 rfl (sizeNt22 _ _ _ _)) rfl ⟨?_, Below.setRow hP.out.b (Nat.le_refl _) _⟩
          have e9 := hPd.out
          rw [if_neg (fun e => h4 e.2)] at e9
          rw [e9]
          exact PsQ.no rfl
      · have hq : ¬ (⟨RR.toArray⟩ : ByteArray) = ⟨#[]⟩ := fun e => hr (by
          have := congrArg (fun b : ByteArray => b.data.toList) e
          simpa using this)
        have hq2 : ¬ (⟨RR.toArray⟩ : ByteArray) = ByteArray.empty := hq
        go_wp2_with ((with_reducible show wpList _ _ _ (Oper.mk _ (Op.store 26 _ _) _ _ _ _ :: _) _ _); go_must (refine wpList_store_row rfl 26 _ _ rfl g2 _ rfl rfl 26 _ hZ.out (sizeNt22 _ _ _ _) rfl (oneNt22 _ _ _ _ _ _) ?_))
        refine bodyPost_ret (results_row_tmp2_22 rfl _ _ g2 26 _ (0, 0) _ rfl (setRow_heap _ _ _ _ _ _ hZ.out) Tryz.underlying26 rfl (sizeNt22 _ _ _ _)) rfl ⟨?_, Below.setRow hP.out.b (Nat.le_refl _) _⟩
        have e9 := hPd.out
        rw [if_neg (fun e => hr e.1)] at e9
        rw [e9]
        exact PsQ.no rfl
end Nt
end Go.Proofs.YtdbbemcddhgbcaaGreatDoor
