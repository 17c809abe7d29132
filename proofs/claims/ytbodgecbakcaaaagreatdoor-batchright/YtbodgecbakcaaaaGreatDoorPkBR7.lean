import Derived.Test.YtbodgecbakcaaaaGreatDoorPkBR6
import Derived.Test.YtbodgecbakcaaaaGreatDoorPkBP7
import Derived.Test.YtbodgecbakcaaaaGreatDoorPkFS1
import Derived.Test.YtbodgecbakcaaaaGreatDoorPkSP18
/- Layer 12, the document: Root, Check -/
namespace Go.Proofs.YtbodgecbakcaaaaGreatDoor
open Go.RowKit Go.Shelf
namespace Bat
theorem wit_all {is : List Nat} {n : Nat} (h : ∀ i ∈ is, i < n) : Tree.wit is 0 n = is := by
  unfold Tree.wit
  rw [List.filter_eq_self]
  intro i hi
  simp [h i hi]
theorem ix_lt {n : Nat} {is : List Nat} (hb : BatOk (n : Int) (ix is)) : ∀ i ∈ is, i < n := fun i hi => by
  have := hb.all (i : Int) (List.mem_map.2 ⟨i, hi, rfl⟩)
  omega
theorem ix_up {n : Int} {is : List Nat} (hb : BatOk n (ix is)) : is.Pairwise (· < ·) := by
  have h := hb.so
  unfold ix at h
  rw [List.pairwise_map] at h
  exact h.imp fun h => by omega
theorem kn_zero {n : Nat} {is : List Nat} {H L : List (List UInt8)} {val : Nat × Nat → List UInt8} (V : Val is n H L val) (hb : BatOk (n : Int) (ix is)) (h1 : hsB8 H = true) (h2 : hsB8 L = true) : knE (n : Int) (ix is) H L = 0 := by
  have ht : tolE (n : Int) (ix is) = 0 := tolE_zero.2 (batchE_ok hb)
  have hl : batchL (n : Int) (ix is) = Tree.othF n 0 n is := by
    unfold batchL
    rw [if_pos (batchE_ok hb), Int.toNat_natCast, toN_ix]
  unfold knE
  rw [if_pos ht, if_pos ⟨by rw [hl]; conv => lhs; rw [V.h]
                            simp, by conv => lhs; rw [V.l]
                                     simp [ix], h1, h2⟩]
set_option maxRecDepth 100000 in
set_option maxHeartbeats 4000000 in
theorem rroot12_bad (n : Int) (cs : List Int) (H L : List (List UInt8)) (ai ah al : Option Addr) (ci ch cl : Nat) (w : World) (hcs : cs.length ≤ 140737488355328) (hin : ∀ c ∈ cs, -9223372036854775808 ≤ c ∧ c ≤ 9223372036854775807) (hH : H.length ≤ 9223372036854775807) (hL : L.length ≤ 9223372036854775807) (hA : AtI w ai cs) (hAh : At w ah H) (hAl : At w al L) (he : knE n cs H L ≠ 0) :
    Calls Tryz.prog 20 #[bt n (.slice ai cs.length ci) (.slice ah H.length ch), .slice al L.length cl] w fun r w' => r = .returned (.tuple #[sv [], .int .i64 (knE n cs H L)]) ∧ Below w.heap.size w w' := by
  have b0 := (Below.refl w.heap.size w).alloc (Nat.le_refl _) (.cells #[.int .i64 n, .slice ai cs.length ci, .slice ah H.length ch] 25)
  have s0 := BtI.new w n (.slice ai cs.length ci) (.slice ah H.length ch)
  have i1 := rwrong12_any n cs H L ai ah al ci ch cl _ (by omega) hin hH hL (hA.below b0 (Nat.le_refl _)) (hAh.below b0 (Nat.le_refl _)) (hAl.below b0 (Nat.le_refl _))
  have B0 := hid b0
  have x0 := s0.c0
  have x1 := s0.c1
  have x2 := s0.c2
  generalize knE n cs H L = c at *
  have h0' : (c != 0) = true := by simpa using he
  generalize H.length = hl at *
  generalize L.length = ll at *
  generalize cs.length = cl2 at *
  clear hA hAh hAl b0 s0 hin
  go_enter Tryz.func20, Tryz.ntmps20
  go_wp2_with (go_at_call 42; refine i1.mono ?_; rintro r w1 ⟨rfl, b1⟩; have B1 := hid (B0.out.trans (b1.mono B0.out.size)); clear b1)
  go_ret2
  exact ⟨rfl, B1.out⟩
set_option maxRecDepth 100000 in
set_option maxHeartbeats 4000000 in
theorem rroot12_ok (n : Nat) (is : List Nat) (H L : List (List UInt8)) (val : Nat × Nat → List UInt8) (V : Val is n H L val) (hb0 : BatOk (n : Int) (ix is)) (hH32 : hsB8 H = true) (hL32 : hsB8 L = true) (ai ah al : Option Addr) (ci ch cl : Nat) (w : World) (qh1 : H.length ≤ ch) (qh2 : ch ≤ 9223372036854775807) (ql1 : L.length ≤ cl) (ql2 : cl ≤ 9223372036854775807) (hA : AtI w ai (ix is)) (hAh : At w ah H) (hAl : At w al L) :
    Calls Tryz.prog 20 #[bt (n : Int) (.slice ai is.length ci) (.slice ah H.length ch), .slice al L.length cl] w fun r w' => r = .returned (.tuple #[sv (val (0, n)), .int .i64 0]) ∧ Below w.heap.size w w' := by
  have b0 := (Below.refl w.heap.size w).alloc (Nat.le_refl _) (.cells #[.int .i64 (n : Int), .slice ai is.length ci, .slice ah H.length ch] 25)
  have s0 := BtI.new w (n : Int) (.slice ai is.length ci) (.slice ah H.length ch)
  have hlt := ix_lt hb0
  have n1 := hb0.n1
  have n2 := hb0.n2
  have l2 := hb0.l2
  have hup : is.Pairwise (· < ·) := ix_up hb0
  have hil : (ix is).length = is.length := by simp [ix]
  rw [hil] at l2
  have hk : knE (n : Int) (ix is) H L = 0 := kn_zero V hb0 hH32 hL32
  have i1 := rwrong12_any (n : Int) (ix is) H L ai ah al ci ch cl _ (by omega) (fun c hc => by
    obtain ⟨i, hi, rfl⟩ := List.mem_map.1 hc
    have := hlt i hi
    omega) (by omega) (by omega) (hA.below b0 (Nat.le_refl _)) (hAh.below b0 (Nat.le_refl _)) (hAl.below b0 (Nat.le_refl _))
  rw [hk, hil] at i1
  have VH : H = (Tree.othF n 0 n is).map val ++ [] := by rw [List.append_nil]; exact V.h
  have VL : L = (Tree.wit is 0 (0 + n)).map (fun i => val (i, i + 1)) ++ [] := by rw [List.append_nil, Nat.zero_add, wit_all hlt]; exact V.l
  have IH : Hid (∀ (w1 : World) (_hb : Below w.heap.size w w1), Calls Tryz.prog 43 #[.pointer (some ⟨w1.heap.size, 0, none⟩), .slice ai is.length ci, .int .i64 0, .int .i64 (n : Int)] (w1.alloc (.cells #[.slice ah H.length ch, .slice al L.length cl] 84)) fun r w' => r = .returned (sv (val (0, n))) ∧ Keep (fun k => k = w1.heap.size) (w1.alloc (.cells #[.slice ah H.length ch, .slice al L.length cl] 84)) w') := fun w1 hb => by
    have hW : Wk w (w1.alloc (.cells #[.slice ah H.length ch, .slice al L.length cl] 84)) w1.heap.size H L := ⟨⟨ah, ch, al, cl, heap_alloc_new w1 _, qh1, qh2, ql1, ql2, hAh, hAl⟩⟩
    rw [VH, VL] at hW
    have hB := hb.alloc hb.size (.cells #[.slice ah H.length ch, .slice al L.length cl] 84)
    rw [← VH, ← VL] at hW
    have hW2 : Wk w (w1.alloc (.cells #[.slice ah H.length ch, .slice al L.length cl] 84)) w1.heap.size ((Tree.othF n 0 n is).map val ++ []) ((Tree.wit is 0 (0 + n)).map (fun i => val (i, i + 1)) ++ []) := by
      rw [← VH, ← VL]; exact hW
    have := rhash12_any w w1.heap.size hb.size val n 0 n is ai ci _ [] [] (by omega) (Nat.le_refl _) (by omega) l2 hup (hA.below hB (Nat.le_refl _)) V.n hB hW2
    rw [Nat.zero_add] at this
    exact this.mono fun r w' ⟨g1, _, g3⟩ => ⟨g1, g3⟩
  have MK : Hid (∀ w', Below w.heap.size (w.alloc (.cells #[.int .i64 (n : Int), .slice ai is.length ci, .slice ah H.length ch] 25)) w' → True) := fun _ _ => trivial
  have HS := hid s0
  have B0 := hid b0
  have x0 := s0.c0
  have x1 := s0.c1
  have x2 := s0.c2
  clear V hb0 hH32 hL32 hA hAh hAl VH VL MK hup hlt hk
  generalize H.length = hl at *
  generalize L.length = ll at *
  generalize is.length = il at *
  generalize val (0, n) = y at *
  clear b0 s0
  go_enter Tryz.func20, Tryz.ntmps20
  go_wp2_with (go_at_call 42; fail)
  refine i1.mono ?_
  rintro r w1 ⟨rfl, b1⟩
  have S1 := HS.out.below b1
  have B1 := B0.out.trans (b1.mono B0.out.size)
  have iH := IH.out w1 B1
  have b2 := (Below.refl w1.heap.size w1).alloc (Nat.le_refl _) (.cells #[.slice ah hl ch, .slice al ll cl] 84)
  have S2 := S1.below b2
  have y2 := S1.c2
  have z0 := S2.c0
  have z1 := S2.c1
  have B2 := hid (B1.trans (b2.mono B1.size))
  have ls := hid B1.size
  clear b1 b2 B1 S1 S2 HS IH i1 x0 x1 x2
  go_wp2_with (go_at_call 43; (with_reducible refine iH.mono ?_); rintro r w7 ⟨rfl, k7⟩; have K7 := hid k7; clear k7)
  go_ret2
  exact ⟨rfl, B2.out.trans (keep_below K7.out B2.out.size (fun k e => by have := ls.out; omega))⟩
structure An (n : Int) (cs : List Int) (H L : List (List UInt8)) (t : List UInt8) (ps : List (List (List UInt8))) : Prop where
  bad : knE n cs H L ≠ 0 → t = [] ∧ ps = []
  ok : knE n cs H L = 0 → ∃ (m : Nat) (is : List Nat) (val : Nat × Nat → List UInt8), n = (m : Int) ∧ cs = ix is ∧ BatOk (m : Int) (ix is) ∧ Val is m H L val ∧ hsB8 H = true ∧ hsB8 L = true ∧ t = val (0, m) ∧ ps = paths is m val
set_option maxRecDepth 100000 in
set_option maxHeartbeats 4000000 in
theorem rcheck12_any (n : Int) (H L : List (List UInt8)) (cl2 : Nat) (ai ah al : Option Addr) (ci ch cl : Nat) (x root : List UInt8) (c d : Int) (w : World)
    (hR : ∀ w', Below w.heap.size w w' → Calls Tryz.prog 20 #[bt n (.slice ai cl2 ci) (.slice ah H.length ch), .slice al L.length cl] w' fun r w'' => r = .returned (.tuple #[sv x, .int .i64 c]) ∧ Below w'.heap.size w' w'')
    (hd : d = if c = 0 then (if x = root then 0 else 123) else c) :
    Calls Tryz.prog 23 #[bt n (.slice ai cl2 ci) (.slice ah H.length ch), .slice al L.length cl, sv root] w fun r w' => r = .returned (.int .i64 d) ∧ Below w.heap.size w w' := by
  have b0 := (Below.refl w.heap.size w).alloc (Nat.le_refl _) (.cells #[.int .i64 n, .slice ai cl2 ci, .slice ah H.length ch] 25)
  have s0 := BtI.new w n (.slice ai cl2 ci) (.slice ah H.length ch)
  have i1 := hR _ b0
  have B0 := hid b0
  have x0 := s0.c0
  have x1 := s0.c1
  have x2 := s0.c2
  generalize H.length = hl at *
  generalize L.length = ll at *
  clear hR b0 s0
  by_cases h0 : c = 0
  · rw [if_pos h0] at hd
    subst h0
    by_cases h1 : x = root
    · rw [if_pos h1] at hd
      subst h1
      subst hd
      have e1 := str_eq12 x
      try rw [show sv x = Value.string ⟨x.toArray⟩ from rfl] at i1
      try rw [show sv x = Value.string ⟨x.toArray⟩ from rfl]
      try rw [show sv root = Value.string ⟨root.toArray⟩ from rfl]
      go_enter Tryz.func23, Tryz.ntmps23
      go_wp2_with (go_at_call 20; refine i1.mono ?_; rintro r w1 ⟨rfl, b1⟩; have B1 := hid (B0.out.trans (b1.mono B0.out.size)); clear b1)
      go_ret
      exact ⟨rfl, B1.out⟩
    · rw [if_neg h1] at hd
      subst hd
      have e1 := str_ne12 h1
      have e2 : (x == root) = false := by simpa using h1
      try rw [show sv x = Value.string ⟨x.toArray⟩ from rfl] at i1
      try rw [show sv x = Value.string ⟨x.toArray⟩ from rfl]
      try rw [show sv root = Value.string ⟨root.toArray⟩ from rfl]
      go_enter Tryz.func23, Tryz.ntmps23
      go_wp2_with (go_at_call 20; refine i1.mono ?_; rintro r w1 ⟨rfl, b1⟩; have B1 := hid (B0.out.trans (b1.mono B0.out.size)); clear b1)
      go_ret
      exact ⟨rfl, B1.out⟩
  · rw [if_neg h0] at hd
    subst hd
    have h0' : (d != 0) = true := by simpa using h0
    go_enter Tryz.func23, Tryz.ntmps23
    go_wp2_with (go_at_call 20; refine i1.mono ?_; rintro r w1 ⟨rfl, b1⟩; have B1 := hid (B0.out.trans (b1.mono B0.out.size)); clear b1)
    go_ret
    exact ⟨rfl, B1.out⟩
end Bat
end Go.Proofs.YtbodgecbakcaaaaGreatDoor

namespace Go.Proofs.YtbodgecbakcaaaaGreatDoor
open Go.RowKit Go.Shelf
theorem OwnM.set {m : Nat} {w : World} {g n c : Nat} {cs : List Value} (h : OwnM m w (.slice (some ⟨g, 0, none⟩) n c) n cs) {j : Nat} (hj : j < cs.length) (u : Value) :
    OwnM m (w.setCell ⟨g, j, none⟩ u) (.slice (some ⟨g, 0, none⟩) n c) n (cs.set j u) ∧ (∃ y, w.cell? ⟨g, j, none⟩ = some y) ∧ w.frozen? ⟨g, j, none⟩ = false := by
  rcases h with ⟨h, _⟩ | ⟨g', cap', h, h2, h3, h0, h4, h5, h6⟩
  · cases h
  injection h with e1 e2 e3
  injection e1 with e1
  injection e1 with e1
  subst e1 e3
  have ht := h5 j (by have := Nat.mul_le_mul_right m h2; omega)
  rw [Nat.zero_add] at ht
  obtain ⟨y, hy⟩ := Option.isSome_iff_exists.1 ht.1
  refine ⟨.inr ⟨g, c, rfl, h2, h3, by rw [List.length_set]; exact h0, ?_, ?_, by simpa [World.setCell] using h6⟩, ⟨y, hy⟩, ht.2⟩
  · intro k u' hk
    rw [List.getElem?_set] at hk
    rw [Nat.zero_add]
    split at hk
    · next e =>
      subst e
      (try split at hk) <;> first | (rw [World.cell?_setCell_same _ _ _ (by rw [hy]; try rfl)]; exact hk) | cases hk
    · next e =>
      rw [World.cell?_setCell_other _ _ _ _ (by simp; try exact fun e' => e e'.symm)]
      have := h4 k u' hk
      rwa [Nat.zero_add] at this
  · intro k hk
    have := h5 k hk
    rw [World.frozen?_setCell]
    refine ⟨?_, this.2⟩
    by_cases e : j = 0 + k
    · rw [← e, World.cell?_setCell_same _ _ _ (by rw [hy]; try rfl)]; rfl
    · rw [World.cell?_setCell_other _ _ _ _ (by simp; try exact fun e' => e (by omega))]; exact this.1
structure Wr (ρ : Nat → Nat) (r : Nat) (w w' : World) : Prop where
  os : w'.os = w.os
  tape : w'.tape = w.tape
  output : w'.output = w.output
  size : w.heap.size ≤ w'.heap.size
  block : ∀ k, k < w.heap.size → ρ k ≠ r → w'.heap[k]? = w.heap[k]?
def rx (ρ : Nat → Nat) (w : World) (r : Nat) : Nat → Nat := fun k => if k < w.heap.size then ρ k else r
theorem rx_old {ρ : Nat → Nat} {w : World} {r k : Nat} (h : k < w.heap.size) : rx ρ w r k = ρ k := if_pos h
theorem rx_new {ρ : Nat → Nat} {w : World} {r k : Nat} (h : w.heap.size ≤ k) : rx ρ w r k = r := if_neg (by omega)
theorem Wr.grow {ρ : Nat → Nat} {r : Nat} {w w' : World} {v v' : Value} (hg : Grow w w' v v') (hr : ∀ k, v.ownBlock = some k → ρ k = r) : Wr ρ r w w' :=
  ⟨hg.os, hg.tape, hg.output, hg.size, fun k hk hne => hg.old k hk (fun e => hne (hr k e))⟩
theorem Wr.setCell {ρ : Nat → Nat} {r : Nat} {w w' : World} (h : Wr ρ r w w') {g : Nat} (hg : g < w.heap.size → ρ g = r) (o : Nat) (u : Value) : Wr ρ r w (w'.setCell ⟨g, o, none⟩ u) :=
  ⟨h.os, h.tape, h.output, by simpa [World.setCell] using h.size, fun k hk hne => (heap_setCell_other w' ⟨g, o, none⟩ k u (fun e => hne (by subst e; exact hg hk))).trans (h.block k hk hne)⟩
theorem Wr.refl (ρ : Nat → Nat) (r : Nat) (w : World) : Wr ρ r w w := ⟨rfl, rfl, rfl, Nat.le_refl _, fun _ _ _ => rfl⟩
theorem Wr.below {ρ : Nat → Nat} {r : Nat} {w w' : World} (h : Below w.heap.size w w') : Wr ρ r w w' := ⟨h.os, h.tape, h.output, h.size, fun k hk _ => h.block k hk⟩
theorem Wr.own {ρ : Nat → Nat} {r : Nat} {w w' : World} {v v' : Value} (hg : Grow w w' v v') (hr : ∀ k, v.ownBlock = some k → ρ k = r) (hl : ∀ k, v.ownBlock = some k → k < w.heap.size) : ∀ k, v'.ownBlock = some k → rx ρ w r k = r := fun k e => by
  rcases hg.alt with e1 | ⟨e1, _⟩
  · rw [e1] at e; rw [rx_old (hl k e)]; exact hr k e
  · exact rx_new (e1 k e)
end Go.Proofs.YtbodgecbakcaaaaGreatDoor

namespace Go.Proofs.YtbodgecbakcaaaaGreatDoor
open Go.RowKit Go.Shelf
namespace Bat
namespace In
def MkV (w : World) (v u : Value) : Prop := ∃ a n c, v = .slice a n c ∧ n ≤ 9223372036854775807 ∧ ∀ j, j < n → ∃ g, a = some ⟨g, 0, none⟩ ∧ g < w.heap.size ∧ w.cell? ⟨g, j, none⟩ = some u
theorem MkV.kept {w w' : World} {v u : Value} (h : MkV w v u) (hs : w.heap.size ≤ w'.heap.size) (hb : ∀ k, v.ownBlock = some k → k < w.heap.size → w'.heap[k]? = w.heap[k]?) : MkV w' v u := by
  obtain ⟨a, n, c, rfl, h1, h2⟩ := h
  refine ⟨a, n, c, rfl, h1, fun j hj => ?_⟩
  obtain ⟨g, rfl, h3, h4⟩ := h2 j hj
  exact ⟨g, rfl, by omega, (World.cell?_of_block (a := ⟨g, j, none⟩) (hb g rfl h3)).trans h4⟩
theorem ownMkV {w : World} {v : Value} {n : Nat} {u : Value} (h : OwnM 1 w v n (List.replicate n u)) : MkV w v u := by
  obtain ⟨a, c, e, h1, h2⟩ := h.shape
  refine ⟨a, n, c, e, by omega, fun j hj => ?_⟩
  obtain ⟨g, c', e1, h3, h4⟩ := h.cell (show (List.replicate n u)[j]? = some u by rw [List.getElem?_replicate, if_pos hj])
  rw [e1] at e
  injection e with e3
  exact ⟨g, e3.symm, h4, h3⟩
def whs (n : Nat) : List Value := (List.range n).map fun t => .int .i64 ((t / 20 : Nat) : Int)
structure Ow (S0 : Nat → Prop) (w0 : World) (gl : Nat) (vs : List Value) (mk : Nat → Value) (p : Nat) (cs : Nat → List Value) (ρ : Nat → Nat) (w : World) (va : Value) (ls : List Value) (vw : Value) (lw : Nat) : Prop where
  kp : Keep S0 w0 w
  lo : ∀ k, k < w0.heap.size → ¬ S0 k → ρ k = 0
  gr : w.rangeAt gl 0 vs
  rg : ρ gl = 0
  lg : gl < w.heap.size
  own : ∀ (j : Nat) (v : Value), p ≤ j → vs[j]? = some v → OwnM 1 w v (cs j).length (cs j) ∧ ∀ k, v.ownBlock = some k → ρ k = 3 + j
  oa : OwnM 1 w va ls.length ls
  ra : ∀ k, va.ownBlock = some k → ρ k = 1
  ow : OwnM 1 w vw lw (whs lw)
  rw_ : ∀ k, vw.ownBlock = some k → ρ k = 2
  mrk : ∀ (t : Nat) (v : Value), ls[t]? = some v → MkV w v (mk (t / 20)) ∧ ∀ k, v.ownBlock = some k → k < w.heap.size ∧ ρ k = 3 + t / 20
section
variable {S0 : Nat → Prop} {w0 w w' : World} {gl : Nat} {vs : List Value} {mk : Nat → Value} {p : Nat} {cs : Nat → List Value} {ρ : Nat → Nat} {va vw va' vw' : Value} {ls : List Value} {lw r : Nat}
theorem keep_wr (hk : Keep S0 w0 w) (lo : ∀ k, k < w0.heap.size → ¬ S0 k → ρ k = 0) (hw : Wr ρ r w w') (h0 : r ≠ 0) : Keep S0 w0 w' :=
  ⟨hw.os.trans hk.os, hw.tape.trans hk.tape, hw.output.trans hk.output, Nat.le_trans hk.size hw.size, fun k h1 h2 => (hw.block k (Nat.lt_of_lt_of_le h1 hk.size) (by rw [lo k h1 h2]; exact fun e => h0 e.symm)).trans (hk.block k h1 h2)⟩
theorem Ow.below (h : Ow S0 w0 gl vs mk p cs ρ w va ls vw lw) (hb : Below w.heap.size w w') : Ow S0 w0 gl vs mk p cs (rx ρ w 0) w' va ls vw lw where
  kp := keep_wr (r := 1) h.kp h.lo (Wr.below hb) (by omega)
  lo := fun k h1 h2 => by rw [rx_old (Nat.lt_of_lt_of_le h1 h.kp.size)]; exact h.lo k h1 h2
  gr := rangeAt_heap h.gr (hb.block gl h.lg)
  rg := by rw [rx_old h.lg]; exact h.rg
  lg := Nat.lt_of_lt_of_le h.lg hb.size
  own := fun j v hj e => by
    obtain ⟨a, b⟩ := h.own j v hj e
    exact ⟨a.below hb, fun k hk => by rw [rx_old (a.lt k hk)]; exact b k hk⟩
  oa := h.oa.below hb
  ra := fun k hk => by rw [rx_old (h.oa.lt k hk)]; exact h.ra k hk
  ow := h.ow.below hb
  rw_ := fun k hk => by rw [rx_old (h.ow.lt k hk)]; exact h.rw_ k hk
  mrk := fun t v e => by
    obtain ⟨a, b⟩ := h.mrk t v e
    exact ⟨a.kept hb.size (fun k _ hl => hb.block k hl), fun k hk => ⟨Nat.lt_of_lt_of_le (b k hk).1 hb.size, by rw [rx_old (b k hk).1]; exact (b k hk).2⟩⟩
theorem Ow.set {i g n c k : Nat} (h : Ow S0 w0 gl vs mk p cs ρ w va [] vw lw) (hp : p ≤ i) (e : vs[i]? = some (.slice (some ⟨g, 0, none⟩) n c)) (hk : k < (cs i).length) (u : Value) :
    Ow S0 w0 gl vs mk p (fun j => if j = i then (cs i).set k u else cs j) ρ (w.setCell ⟨g, k, none⟩ u) va [] vw lw ∧ (∃ y, w.cell? ⟨g, k, none⟩ = some y) ∧ w.frozen? ⟨g, k, none⟩ = false := by
  obtain ⟨a, b⟩ := h.own i _ hp e
  have hn : (cs i).length = n := by
    obtain ⟨a1, c1, e1, _, _⟩ := a.shape
    injection e1 with _ e2 _
    exact e2.symm
  rw [hn] at a
  obtain ⟨o1, o2, o3⟩ := a.set hk u
  have rg := b g rfl
  have hw : Wr ρ (3 + i) w (w.setCell ⟨g, k, none⟩ u) := (Wr.refl ρ (3 + i) w).setCell (fun _ => rg) _ _
  have hs : w.heap.size ≤ (w.setCell ⟨g, k, none⟩ u).heap.size := hw.size
  refine ⟨?_, o2, o3⟩
  constructor
  case kp => exact keep_wr h.kp h.lo hw (by omega)
  case lo => exact h.lo
  case gr => exact rangeAt_heap h.gr (hw.block gl h.lg (by rw [h.rg]; omega))
  case rg => exact h.rg
  case lg => exact Nat.lt_of_lt_of_le h.lg hs
  case own =>
    intro j v hj ej
    by_cases hji : j = i
    · subst hji
      obtain rfl : Value.slice (some ⟨g, 0, none⟩) n c = v := Option.some.inj (e.symm.trans ej)
      rw [if_pos rfl, List.length_set, hn]
      exact ⟨o1, b⟩
    · rw [if_neg hji]
      obtain ⟨a', b'⟩ := h.own j v hj ej
      exact ⟨a'.kept hs (fun g' hg' => hw.block g' (a'.lt g' hg') (by rw [b' g' hg']; omega)), b'⟩
  case oa => exact h.oa.kept hs (fun g' hg' => hw.block g' (h.oa.lt g' hg') (by rw [h.ra g' hg']; omega))
  case ra => exact h.ra
  case ow => exact h.ow.kept hs (fun g' hg' => hw.block g' (h.ow.lt g' hg') (by rw [h.rw_ g' hg']; omega))
  case rw_ => exact h.rw_
  case mrk => exact fun t v e => by cases e
theorem Ow.pushA {x : Value} (h : Ow S0 w0 gl vs mk p cs ρ w va ls vw lw) (hg : Grow w w' va va') (ho : OwnM 1 w' va' (ls.length + 1) (ls ++ [x])) (hx : MkV w x (mk (ls.length / 20))) (hr : ∀ k, x.ownBlock = some k → k < w.heap.size ∧ ρ k = 3 + ls.length / 20) :
    Ow S0 w0 gl vs mk p cs (rx ρ w 1) w' va' (ls ++ [x]) vw lw := by
  have hw : Wr ρ 1 w w' := Wr.grow hg h.ra
  have hs := hw.size
  constructor
  case kp => exact keep_wr h.kp h.lo hw (by omega)
  case lo => exact fun k h1 h2 => by rw [rx_old (Nat.lt_of_lt_of_le h1 h.kp.size)]; exact h.lo k h1 h2
  case gr => exact rangeAt_heap h.gr (hw.block gl h.lg (by rw [h.rg]; omega))
  case rg => rw [rx_old h.lg]; exact h.rg
  case lg => exact Nat.lt_of_lt_of_le h.lg hs
  case own =>
    intro j v hj ej
    obtain ⟨a', b'⟩ := h.own j v hj ej
    exact ⟨a'.kept hs (fun g' hg' => hw.block g' (a'.lt g' hg') (by rw [b' g' hg']; omega)), fun k hk => by rw [rx_old (a'.lt k hk)]; exact b' k hk⟩
  case oa => rw [List.length_append]; exact ho
  case ra => exact Wr.own hg h.ra h.oa.lt
  case ow => exact h.ow.kept hs (fun g' hg' => hw.block g' (h.ow.lt g' hg') (by rw [h.rw_ g' hg']; omega))
  case rw_ => exact fun k hk => by rw [rx_old (h.ow.lt k hk)]; exact h.rw_ k hk
  case mrk =>
    intro t v e
    rw [List.getElem?_append] at e
    split at e
    · obtain ⟨a, b⟩ := h.mrk t v e
      exact ⟨a.kept hs (fun k hk hl => hw.block k hl (by rw [(b k hk).2]; omega)), fun k hk => ⟨Nat.lt_of_lt_of_le (b k hk).1 hs, by rw [rx_old (b k hk).1]; exact (b k hk).2⟩⟩
    · next hj =>
      have ht := (List.getElem?_eq_some_iff.1 e).1
      simp at ht
      obtain rfl : t = ls.length := by omega
      rw [Nat.sub_self] at e
      obtain rfl : x = v := Option.some.inj e
      exact ⟨hx.kept hs (fun k hk hl => hw.block k hl (by rw [(hr k hk).2]; omega)), fun k hk => ⟨Nat.lt_of_lt_of_le (hr k hk).1 hs, by rw [rx_old (hr k hk).1]; exact (hr k hk).2⟩⟩
structure Ox (S0 : Nat → Prop) (w0 : World) (gl : Nat) (vs : List Value) (mk : Nat → Value) (i q n : Nat) (cs : Nat → List Value) (ρ : Nat → Nat) (w : World) (va : Value) (ls : List Value) (vw : Value) (lw : Nat) (x : Value) : Prop where
  b : Ow S0 w0 gl vs mk (i + 1) cs ρ w va ls vw lw
  ox : OwnM 1 w x n (List.replicate n (mk i))
  rx_ : ∀ k, x.ownBlock = some k → ρ k = 3 + i
  ll : ls.length = 20 * i + q
  sn : ∀ (t : Nat) (u : Value), ls[t]? = some u → t / 20 = i → ∃ a m c, u = .slice a m c ∧ m ≤ n
theorem Ow.take {i : Nat} {v : Value} (h : Ow S0 w0 gl vs mk i cs ρ w va ls vw lw) (e : vs[i]? = some v) (hc : cs i = List.replicate (cs i).length (mk i)) (hl : ls.length = 20 * i) : Ox S0 w0 gl vs mk i 0 (cs i).length cs ρ w va ls vw lw v where
  b := { h with own := fun j v hj e => h.own j v (by omega) e }
  ox := by have := (h.own i v (Nat.le_refl _) e).1; rwa [hc, List.length_replicate] at this
  rx_ := (h.own i v (Nat.le_refl _) e).2
  ll := hl
  sn := fun t u et hr => by
    have := (List.getElem?_eq_some_iff.1 et).1
    rw [hl] at this
    omega
theorem Ox.below {i q n : Nat} {x : Value} (h : Ox S0 w0 gl vs mk i q n cs ρ w va ls vw lw x) (hb : Below w.heap.size w w') : Ox S0 w0 gl vs mk i q n cs (rx ρ w 0) w' va ls vw lw x where
  b := h.b.below hb
  ox := h.ox.below hb
  rx_ := fun k hk => by rw [rx_old (h.ox.lt k hk)]; exact h.rx_ k hk
  ll := h.ll
  sn := h.sn
theorem Ox.pushA {i q n : Nat} {x : Value} (h : Ox S0 w0 gl vs mk i q n cs ρ w va ls vw lw x) (hq : q < 20) (hg : Grow w w' va va') (ho : OwnM 1 w' va' (ls.length + 1) (ls ++ [x])) : Ox S0 w0 gl vs mk i (q + 1) n cs (rx ρ w 1) w' va' (ls ++ [x]) vw lw x := by
  have hd : ls.length / 20 = i := by rw [h.ll]; omega
  have hw : Wr ρ 1 w w' := Wr.grow hg h.b.ra
  constructor
  case b => exact h.b.pushA hg ho (by rw [hd]; exact (ownMkV h.ox)) (fun k hk => ⟨h.ox.lt k hk, by rw [hd]; exact h.rx_ k hk⟩)
  case ox => exact h.ox.kept hw.size (fun g hg' => hw.block g (h.ox.lt g hg') (by rw [h.rx_ g hg']; omega))
  case rx_ => exact fun k hk => by rw [rx_old (h.ox.lt k hk)]; exact h.rx_ k hk
  case ll => rw [List.length_append, h.ll]; rfl
  case sn =>
    intro t u e hr
    rw [List.getElem?_append] at e
    split at e
    · exact h.sn t u e hr
    · obtain ⟨a, c, e1, _, _⟩ := h.ox.shape
      have ht := (List.getElem?_eq_some_iff.1 e).1
      simp at ht
      rw [show t - ls.length = 0 by omega] at e
      obtain rfl : x = u := Option.some.inj e
      exact ⟨a, n, c, e1, Nat.le_refl _⟩
theorem Ox.grow {i q n : Nat} {x x' : Value} (h : Ox S0 w0 gl vs mk i q n cs ρ w va ls vw lw x) (hg : Grow w w' x x') (ho : OwnM 1 w' x' (n + 1) (List.replicate (n + 1) (mk i))) : Ox S0 w0 gl vs mk i q (n + 1) cs (rx ρ w (3 + i)) w' va ls vw lw x' := by
  have hw : Wr ρ (3 + i) w w' := Wr.grow hg h.rx_
  have hs := hw.size
  constructor
  case b =>
    constructor
    case kp => exact keep_wr h.b.kp h.b.lo hw (by omega)
    case lo => exact fun k h1 h2 => by rw [rx_old (Nat.lt_of_lt_of_le h1 h.b.kp.size)]; exact h.b.lo k h1 h2
    case gr => exact rangeAt_heap h.b.gr (hw.block gl h.b.lg (by rw [h.b.rg]; omega))
    case rg => rw [rx_old h.b.lg]; exact h.b.rg
    case lg => exact Nat.lt_of_lt_of_le h.b.lg hs
    case own =>
      intro j v hj ej
      obtain ⟨a', b'⟩ := h.b.own j v hj ej
      exact ⟨a'.kept hs (fun g' hg' => hw.block g' (a'.lt g' hg') (by rw [b' g' hg']; omega)), fun k hk => by rw [rx_old (a'.lt k hk)]; exact b' k hk⟩
    case oa => exact h.b.oa.kept hs (fun g' hg' => hw.block g' (h.b.oa.lt g' hg') (by rw [h.b.ra g' hg']; omega))
    case ra => exact fun k hk => by rw [rx_old (h.b.oa.lt k hk)]; exact h.b.ra k hk
    case ow => exact h.b.ow.kept hs (fun g' hg' => hw.block g' (h.b.ow.lt g' hg') (by rw [h.b.rw_ g' hg']; omega))
    case rw_ => exact fun k hk => by rw [rx_old (h.b.ow.lt k hk)]; exact h.b.rw_ k hk
    case mrk =>
      intro t u e
      obtain ⟨hM, b⟩ := h.b.mrk t u e
      refine ⟨?_, fun k hk => ⟨Nat.lt_of_lt_of_le (b k hk).1 hs, by rw [rx_old (b k hk).1]; exact (b k hk).2⟩⟩
      by_cases ht : t / 20 = i
      · obtain ⟨a0, m0, c0, e0, hm0⟩ := h.sn t u e ht
        obtain ⟨a, m, c, e1, hm, hc⟩ := hM
        rw [e0] at e1
        injection e1 with e1 e2 e3
        subst e1 e2 e3
        refine ⟨a0, m0, c0, e0, hm, fun j hj => ?_⟩
        obtain ⟨g, ea, h3, h4⟩ := hc j hj
        have keep : w'.heap[g]? = w.heap[g]? → ∃ g', a0 = some ⟨g', 0, none⟩ ∧ g' < w'.heap.size ∧ w'.cell? ⟨g', j, none⟩ = some (mk (t / 20)) := fun e' =>
          ⟨g, ea, Nat.lt_of_lt_of_le h3 hs, (World.cell?_of_block (a := ⟨g, j, none⟩) e').trans h4⟩
        by_cases hv : x.ownBlock = some g
        · rcases hg.alt with e4 | ⟨_, e4⟩
          · obtain ⟨g1, c1, f1, f2, f3⟩ := ho.cell (show (List.replicate (n + 1) (mk i))[j]? = some (mk i) by rw [List.getElem?_replicate, if_pos (by omega)])
            rw [hv] at e4
            have hg1 : g1 = g := by rw [f1] at e4; injection e4
            subst hg1
            rw [ht]
            exact ⟨_, ea, f3, f2⟩
          · exact keep (e4 g h3)
        · exact keep (hg.old g h3 hv)
      · exact hM.kept hs (fun k hk hl => hw.block k hl (by rw [(b k hk).2]; omega))
  case ox => exact ho
  case rx_ => exact Wr.own hg h.rx_ h.ox.lt
  case ll => exact h.ll
  case sn =>
    intro t u e hr
    obtain ⟨a, m, c, e1, e2⟩ := h.sn t u e hr
    exact ⟨a, m, c, e1, by omega⟩
end
end In
end Bat
end Go.Proofs.YtbodgecbakcaaaaGreatDoor

namespace Go.Proofs.YtbodgecbakcaaaaGreatDoor
open Go.RowKit Go.Shelf
namespace Bat
namespace In
def fst (l : List Value) (k : Nat) (u : Value) : Prop := ∀ t, t < k → l[t]? = some u
theorem fst_all {l : List Value} {u : Value} (h : fst l l.length u) : l = List.replicate l.length u := by
  apply List.ext_getElem?
  intro t
  rw [List.getElem?_replicate]
  split
  · next ht => exact h t ht
  · next ht => exact List.getElem?_eq_none (by omega)
theorem fst_set {l : List Value} {k : Nat} {u : Value} (h : fst l k u) (hk : k < l.length) : fst (l.set k u) (k + 1) u := fun t ht => by
  rw [List.getElem?_set]
  split
  · next e => subst e; first | rfl | (rw [if_pos hk])
  · next e => exact h t (by omega)
theorem keep_belowI {S0 : Nat → Prop} {w0 w w' : World} (h : Keep S0 w0 w) (hb : Below w.heap.size w w') : Keep S0 w0 w' :=
  ⟨hb.os.trans h.os, hb.tape.trans h.tape, hb.output.trans h.output, Nat.le_trans h.size hb.size, fun k h1 h2 => (hb.block k (Nat.lt_of_lt_of_le h1 h.size)).trans (h.block k h1 h2)⟩
end In
end Bat
end Go.Proofs.YtbodgecbakcaaaaGreatDoor

/- Layer 12, the document: the lists of paths, while they are put together -/
namespace Go.Proofs.YtbodgecbakcaaaaGreatDoor
open Go.RowKit Go.Shelf
namespace Bat
structure Ls (B : Nat) (w : World) (vs : List Value) (ps : List (List (List UInt8))) (ρ : Nat → Nat) : Prop where
  len : vs.length = ps.length
  bs : B ≤ w.heap.size
  lo : ∀ b, b < B → ρ b = 0
  own : ∀ (k : Nat) (u : Value) (p : List (List UInt8)), vs[k]? = some u → ps[k]? = some p → OwnM 1 w u p.length (svs p) ∧ ∀ b, u.ownBlock = some b → ρ b = k + 3
def LL (B : Nat) (w : World) (v : Value) (ps : List (List (List UInt8))) : Prop := ∃ (vs : List Value) (ρ : Nat → Nat), Ls B w vs ps ρ ∧ OwnM 1 w v vs.length vs ∧ ∀ b, v.ownBlock = some b → B ≤ b ∧ ρ b = 0
section
variable {B r : Nat} {w w' : World} {vs : List Value} {ps : List (List (List UInt8))} {ρ : Nat → Nat} {v u' : Value}
theorem Ls.wr (h : Ls B w vs ps ρ) (hw : Wr ρ r w w') (hr : ∀ k, k < vs.length → r ≠ k + 3) (s : Nat) : Ls B w' vs ps (rx ρ w s) :=
  ⟨h.len, Nat.le_trans h.bs hw.size, fun b hb => by rw [rx_old (Nat.lt_of_lt_of_le hb h.bs)]; exact h.lo b hb, fun k u p hu hp => by
    obtain ⟨a, c⟩ := h.own k u p hu hp
    exact ⟨a.kept hw.size (fun b hb => hw.block b (a.lt b hb) (by rw [c b hb]; exact fun e => hr k (List.getElem?_eq_some_iff.1 hu).1 e.symm)), fun b hb => by rw [rx_old (a.lt b hb)]; exact c b hb⟩⟩
theorem Ls.below (h : Ls B w vs ps ρ) (hb : Below w.heap.size w w') (s : Nat) : Ls B w' vs ps (rx ρ w s) :=
  h.wr (r := 0) (Wr.below hb) (fun k _ => by omega) s
theorem Ls.grow {k : Nat} {u : Value} {p : List (List UInt8)} {x : List UInt8} (h : Ls B w vs ps ρ) (hu : vs[k]? = some u) (hp : ps[k]? = some p) (hg : Grow w w' u u') (ho : OwnM 1 w' u' (p.length + 1) (svs (p ++ [x]))) :
    Ls B w' (vs.set k u') (ps.set k (p ++ [x])) (rx ρ w (k + 3)) := by
  obtain ⟨a, c⟩ := h.own k u p hu hp
  have hw : Wr ρ (k + 3) w w' := Wr.grow hg c
  refine ⟨by rw [List.length_set, List.length_set]; exact h.len, Nat.le_trans h.bs hw.size, fun b hb => by rw [rx_old (Nat.lt_of_lt_of_le hb h.bs)]; exact h.lo b hb, fun j u2 p2 hu2 hp2 => ?_⟩
  have hk := (List.getElem?_eq_some_iff.1 hu).1
  by_cases e : j = k
  · subst e
    rw [List.getElem?_set_self hk] at hu2
    rw [List.getElem?_set_self (by rw [← h.len]; exact hk)] at hp2
    obtain rfl := Option.some.inj hu2
    obtain rfl := Option.some.inj hp2
    exact ⟨by rw [List.length_append]; exact ho, Wr.own hg c a.lt⟩
  · rw [List.getElem?_set_ne (fun e' => e e'.symm)] at hu2 hp2
    obtain ⟨a2, c2⟩ := h.own j u2 p2 hu2 hp2
    exact ⟨a2.kept hw.size (fun b hb => hw.block b (a2.lt b hb) (by rw [c2 b hb]; omega)), fun b hb => by rw [rx_old (a2.lt b hb)]; exact c2 b hb⟩
theorem LL.below (h : LL B w v ps) (hb : Below w.heap.size w w') : LL B w' v ps := by
  obtain ⟨vs, ρ, h1, h2, h3⟩ := h
  exact ⟨vs, rx ρ w 0, h1.below hb 0, h2.below hb, fun b hb' => ⟨(h3 b hb').1, by rw [rx_old (h2.lt b hb')]; exact (h3 b hb').2⟩⟩
end
structure Cc (S0 : Nat → Prop) (w0 : World) (vp vq : Value) (vsP vsQ : List Value) (w : World) (ρ : Nat → Nat) (cs : List Value) (cps : List (List (List UInt8))) (vo : Value) (ls : List Value) : Prop where
  kp : Keep S0 w0 w
  ll : Ls w0.heap.size w cs cps ρ
  oo : OwnM 1 w vo ls.length ls
  ro : ∀ b, vo.ownBlock = some b → ρ b = 2
  p : OwnM 1 w vp vsP.length vsP
  rp : ∀ b, vp.ownBlock = some b → ρ b = 0
  q : OwnM 1 w vq vsQ.length vsQ
  rq : ∀ b, vq.ownBlock = some b → ρ b = 0
section
variable {S0 : Nat → Prop} {w0 w w1 w2 : World} {vp vq vo vo' u u' : Value} {vsP vsQ ws rest : List Value} {ρ : Nat → Nat} {p : List (List UInt8)} {wps rps : List (List (List UInt8))} {x : List UInt8}
theorem Cc.grow (h : Cc S0 w0 vp vq vsP vsQ w ρ (ws ++ u :: rest) (wps ++ p :: rps) vo ws) (hl : ws.length = wps.length) (hg : Grow w w1 u u') (ho : OwnM 1 w1 u' (p.length + 1) (svs (p ++ [x]))) :
    Cc S0 w0 vp vq vsP vsQ w1 (rx ρ w (ws.length + 3)) (ws ++ u' :: rest) (wps ++ (p ++ [x]) :: rps) vo ws ∧ ∀ k, k < w0.heap.size → w1.heap[k]? = w.heap[k]? := by
  have hu : (ws ++ u :: rest)[ws.length]? = some u := by rw [List.getElem?_append_right (Nat.le_refl _), Nat.sub_self]; rfl
  have hp : (wps ++ p :: rps)[ws.length]? = some p := by rw [hl, List.getElem?_append_right (Nat.le_refl _), Nat.sub_self]; rfl
  obtain ⟨a, c⟩ := h.ll.own _ u p hu hp
  have hw : Wr ρ (ws.length + 3) w w1 := Wr.grow hg c
  have hs := hw.size
  have hL := h.ll.grow hu hp hg ho
  rw [List.set_append_right _ _ (Nat.le_refl _), Nat.sub_self, List.set_cons_zero, hl, List.set_append_right _ _ (Nat.le_refl _), Nat.sub_self, List.set_cons_zero] at hL
  rw [← hl] at hL
  refine ⟨⟨?_, hL, ?_, ?_, ?_, ?_, ?_, ?_⟩, fun k h1 => hw.block k (Nat.lt_of_lt_of_le h1 h.kp.size) (by rw [h.ll.lo k h1]; omega)⟩
  · exact ⟨hw.os.trans h.kp.os, hw.tape.trans h.kp.tape, hw.output.trans h.kp.output, Nat.le_trans h.kp.size hs, fun k h1 h2 => (hw.block k (Nat.lt_of_lt_of_le h1 h.kp.size) (by rw [h.ll.lo k h1]; omega)).trans (h.kp.block k h1 h2)⟩
  · exact h.oo.kept hs (fun b hb => hw.block b (h.oo.lt b hb) (by rw [h.ro b hb]; omega))
  · exact fun b hb => by rw [rx_old (h.oo.lt b hb)]; exact h.ro b hb
  · exact h.p.kept hs (fun b hb => hw.block b (h.p.lt b hb) (by rw [h.rp b hb]; omega))
  · exact fun b hb => by rw [rx_old (h.p.lt b hb)]; exact h.rp b hb
  · exact h.q.kept hs (fun b hb => hw.block b (h.q.lt b hb) (by rw [h.rq b hb]; omega))
  · exact fun b hb => by rw [rx_old (h.q.lt b hb)]; exact h.rq b hb
theorem Cc.push {cs : List Value} {cps : List (List (List UInt8))} (h : Cc S0 w0 vp vq vsP vsQ w ρ cs cps vo ws) (hg : Grow w w1 vo vo') (ho : OwnM 1 w1 vo' (ws.length + 1) (ws ++ [u'])) :
    Cc S0 w0 vp vq vsP vsQ w1 (rx ρ w 2) cs cps vo' (ws ++ [u']) ∧ ∀ k, k < w0.heap.size → w1.heap[k]? = w.heap[k]? := by
  have hw : Wr ρ 2 w w1 := Wr.grow hg h.ro
  have hs := hw.size
  refine ⟨⟨?_, h.ll.wr hw (fun k _ => by omega) 2, by rw [List.length_append]; exact ho, Wr.own hg h.ro h.oo.lt, ?_, ?_, ?_, ?_⟩, fun k h1 => hw.block k (Nat.lt_of_lt_of_le h1 h.kp.size) (by rw [h.ll.lo k h1]; omega)⟩
  · exact ⟨hw.os.trans h.kp.os, hw.tape.trans h.kp.tape, hw.output.trans h.kp.output, Nat.le_trans h.kp.size hs, fun k h1 h2 => (hw.block k (Nat.lt_of_lt_of_le h1 h.kp.size) (by rw [h.ll.lo k h1]; omega)).trans (h.kp.block k h1 h2)⟩
  · exact h.p.kept hs (fun b hb => hw.block b (h.p.lt b hb) (by rw [h.rp b hb]; omega))
  · exact fun b hb => by rw [rx_old (h.p.lt b hb)]; exact h.rp b hb
  · exact h.q.kept hs (fun b hb => hw.block b (h.q.lt b hb) (by rw [h.rq b hb]; omega))
  · exact fun b hb => by rw [rx_old (h.q.lt b hb)]; exact h.rq b hb
theorem Cc.done {cps : List (List (List UInt8))} (h : Cc S0 w0 vp vq vsP vsQ w ρ ws cps vo ws) : LL w0.heap.size w vo cps :=
  ⟨ws, fun b => if ρ b = 2 then 0 else ρ b, ⟨h.ll.len, h.ll.bs, fun b hb => by simp only [h.ll.lo b hb]; rfl, fun k u p hu hp => by
    obtain ⟨a, c⟩ := h.ll.own k u p hu hp
    exact ⟨a, fun b hb => by simp only [c b hb]; exact if_neg (by omega)⟩⟩, h.oo, fun b hb => ⟨by
    refine Nat.le_of_not_lt fun hlt => ?_
    have := h.ro b hb
    rw [h.ll.lo b hlt] at this
    omega, by simp only [h.ro b hb]; rfl⟩⟩
end
theorem Cc.start {S0 : Nat → Prop} {w0 w3 w : World} {vp vq : Value} {psL psR : List (List (List UInt8))} (hk : Keep S0 w0 w) (hlt : w0.heap.size ≤ w3.heap.size) (h1 : LL w0.heap.size w3 vp psL) (hK : Keep S0 w3 w) (hS : ∀ k, S0 k → k < w0.heap.size) (h2 : LL w3.heap.size w vq psR) :
    ∃ vsP vsQ ρ, Cc S0 w0 vp vq vsP vsQ w ρ (vsP ++ vsQ) (psL ++ psR) (.slice none 0 0) [] ∧ vsP.length = psL.length ∧ vsQ.length = psR.length := by
  obtain ⟨vsP, ρP, x1, x2, a3⟩ := h1
  have hin : ∀ b, vp.ownBlock = some b → b < w3.heap.size := x2.lt
  have a4 : ∀ (k : Nat) (u : Value) (p : List (List UInt8)), vsP[k]? = some u → psL[k]? = some p → ∀ b, u.ownBlock = some b → b < w3.heap.size := fun k u p hu hp => (x1.own k u p hu hp).1.lt
  have a2 := x2.keep hK (fun b hb e => by have := (a3 b hb).1; have := hS b e; omega)
  have a1 : Ls w0.heap.size w vsP psL ρP := by
    refine ⟨x1.len, Nat.le_trans x1.bs hK.size, x1.lo, fun k u p hu hp => ?_⟩
    obtain ⟨a, c⟩ := x1.own k u p hu hp
    refine ⟨a.keep hK (fun b hb e => ?_), c⟩
    have h4 := c b hb
    rw [x1.lo b (hS b e)] at h4
    omega
  obtain ⟨vsQ, ρQ, b1, b2, b3⟩ := h2
  refine ⟨vsP, vsQ, fun b => if b < w3.heap.size then ρP b else if ρQ b = 0 then 0 else ρQ b + vsP.length, ⟨hk, ⟨?_, ?_, ?_, ?_⟩, OwnM.nil 1 w, fun b hb => (by cases hb), a2, ?_, b2, ?_⟩, a1.len, b1.len⟩
  · rw [List.length_append, List.length_append, a1.len, b1.len]
  · exact a1.bs
  · intro b hb
    simp only [if_pos (show b < w3.heap.size by omega)]
    exact a1.lo b (by omega)
  · intro k u p hu hp
    rw [List.getElem?_append] at hu hp
    rw [← a1.len] at hp
    split at hu
    · next hk' =>
      rw [if_pos hk'] at hp
      obtain ⟨c, d⟩ := a1.own k u p hu hp
      exact ⟨c, fun b hb => by simp only [if_pos (a4 k u p hu hp b hb)]; exact d b hb⟩
    · next hk' =>
      rw [if_neg hk'] at hp
      obtain ⟨c, d⟩ := b1.own _ u p hu hp
      refine ⟨c, fun b hb => ?_⟩
      have d' := d b hb
      have : ¬ b < w3.heap.size := fun hlt' => by
        rw [b1.lo b hlt'] at d'
        omega
      simp only [if_neg this, d']
      rw [if_neg (by omega)]
      omega
  · intro b hb
    simp only [if_pos (hin b hb)]
    exact (a3 b hb).2
  · intro b hb
    have h5 := b3 b hb
    simp only [if_neg (show ¬ b < w3.heap.size by omega), h5.2]
    rfl
end Bat
end Go.Proofs.YtbodgecbakcaaaaGreatDoor
