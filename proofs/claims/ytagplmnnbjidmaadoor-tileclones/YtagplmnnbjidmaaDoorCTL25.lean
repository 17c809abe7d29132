import Derived.Test.YtagplmnnbjidmaaDoorCTL24
import Derived.Test.YtagplmnnbjidmaaDoorCO15
import Derived.Test.YtagplmnnbjidmaaDoorCO28
import Derived.Test.YtagplmnnbjidmaaDoorCFL2
namespace Go.Proofs.YtagplmnnbjidmaaDoor
open Go.RowKit
/-- an edge and two lists, that share nothing, from block B on -/
structure RG (w : World) (B qg : Nat) (Le Lr Ll : List (List UInt8)) (vr vl : Value) (F : Nat → Prop) : Prop where
  ed : EdL w qg Le F
  or : Own w B vr (svs Lr)
  ol : Own w B vl (svs Ll)
  fr : ∀ j, vr.ownBlock = some j → ¬ F j
  fl : ∀ j, vl.ownBlock = some j → ¬ F j
  rl : ∀ j, vr.ownBlock = some j → vl.ownBlock ≠ some j
  lo : ∀ j, F j → B ≤ j
  sz : B ≤ w.heap.size
theorem RG.below {w w' : World} {B qg : Nat} {Le Lr Ll : List (List UInt8)} {vr vl : Value} {F : Nat → Prop} (h : RG w B qg Le Lr Ll vr vl F) (hb : Below w.heap.size w w') : RG w' B qg Le Lr Ll vr vl F :=
  ⟨Ed.below h.ed hb, h.or.below hb (Nat.le_refl _), h.ol.below hb (Nat.le_refl _), h.fr, h.fl, h.rl, h.lo, Nat.le_trans h.sz hb.size⟩
theorem RG.pushR {w w' : World} {B qg : Nat} {Le Lr Lr' Ll : List (List UInt8)} {vr vr' vl : Value} {F : Nat → Prop} (h : RG w B qg Le Lr Ll vr vl F) (hg : Grow w w' vr vr') (ho : Own w' B vr' (svs Lr')) : RG w' B qg Le Lr' Ll vr' vl F ∧ Below B w w' := by
  have hk := hg.keep
  have hnew : ∀ j, vr'.ownBlock = some j → vr.ownBlock = some j ∨ w.heap.size ≤ j := fun j hj => by
    rcases hg.alt with e | ⟨e, _⟩
    · exact .inl (e ▸ hj)
    · exact .inr (e j hj)
  refine ⟨⟨Ed.keep h.ed hk fun k hk e => h.fr k e hk, ho, h.ol.keep hk fun k hk e => h.rl k e hk, fun j hj hF => ?_, h.fl, fun j hj e => ?_, h.lo, Nat.le_trans h.sz hg.size⟩, hk.toBelow h.sz fun k hk => h.or.ge k hk⟩
  · rcases hnew j hj with e | e
    · exact h.fr j e hF
    · have := (Ed.lt h.ed j hF).2; omega
  · rcases hnew j hj with e1 | e1
    · exact h.rl j e1 e
    · have := h.ol.ltS j e; omega
theorem RG.pushL {w w' : World} {B qg : Nat} {Le Lr Ll Ll' : List (List UInt8)} {vr vl vl' : Value} {F : Nat → Prop} (h : RG w B qg Le Lr Ll vr vl F) (hg : Grow w w' vl vl') (ho : Own w' B vl' (svs Ll')) : RG w' B qg Le Lr Ll' vr vl' F ∧ Below B w w' := by
  have hk := hg.keep
  have hnew : ∀ j, vl'.ownBlock = some j → vl.ownBlock = some j ∨ w.heap.size ≤ j := fun j hj => by
    rcases hg.alt with e | ⟨e, _⟩
    · exact .inl (e ▸ hj)
    · exact .inr (e j hj)
  refine ⟨⟨Ed.keep h.ed hk fun k hk e => h.fl k e hk, h.or.keep hk fun k hk e => h.rl k hk e, ho, h.fr, fun j hj hF => ?_, fun j hj e => ?_, h.lo, Nat.le_trans h.sz hg.size⟩, hk.toBelow h.sz fun k hk => h.ol.ge k hk⟩
  · rcases hnew j hj with e | e
    · exact h.fl j e hF
    · have := (Ed.lt h.ed j hF).2; omega
  · rcases hnew j e with e1 | e1
    · exact h.rl j hj e1
    · have := h.or.ltS j hj; omega
theorem RG.add {w w' : World} {B qg : Nat} {Le Le' Lr Ll : List (List UInt8)} {vr vl : Value} {F F' : Nat → Prop} (h : RG w B qg Le Lr Ll vr vl F) (hm : Mov F w w' F') (he : EdL w' qg Le' F') : RG w' B qg Le' Lr Ll vr vl F' ∧ Below B w w' := by
  obtain ⟨b1, b2⟩ := hm.below h.sz h.lo
  refine ⟨⟨he, h.or.keep hm.keep h.fr, h.ol.keep hm.keep h.fl, fun j hj hF => ?_, fun j hj hF => ?_, h.rl, b2, Nat.le_trans h.sz b1.size⟩, b1⟩
  · rcases hm.new j hF with e | e
    · exact h.fr j hj e
    · have := h.or.ltS j hj; omega
  · rcases hm.new j hF with e | e
    · exact h.fl j hj e
    · have := h.ol.ltS j hj; omega
theorem append_S (w : World) (B : Nat) (v : Value) (H : List (List UInt8)) (x : List UInt8) (hown : Own w B v (svs H)) (hlen : H.length ≤ 2000000) (hB : B ≤ w.heap.size) :
    ∃ v' w', (Builtin.append_ #[33, 33] 33 #[v, .slice (some ⟨w.heap.size, 0, none⟩) 1 1]).run Tryd.prog (w.alloc (.cells #[.string ⟨x.toArray⟩] 9)) = .ok v' w' ∧ Own w' B v' (svs (H ++ [x])) ∧ Grow w w' v v' := by
  have h := append_one 33 9 (.string ⟨#[]⟩) 16 (by omega) undSlS infoS rfl w B v (svs H) (sv x) rfl hown (by rw [svs_length]; exact hlen) hB
  rw [show svs H ++ [sv x] = svs (H ++ [x]) by simp [svs]] at h
  exact h
/-- the roots of the past -/
def rts (L : List (List UInt8)) (k : Nat) : List (List UInt8) := (List.range k).map fun j => Tree.root (L.take j)
theorem rts_succ (L : List (List UInt8)) (k : Nat) : rts L (k + 1) = rts L k ++ [Tree.root (L.take k)] := by unfold rts; rw [List.range_succ, List.map_append]; rfl
theorem rts_len (L : List (List UInt8)) (k : Nat) : (rts L k).length = k := by unfold rts; rw [List.length_map, List.length_range]
theorem rts_get {L : List (List UInt8)} {k j : Nat} (h : j < k) : (rts L k)[j]? = some (Tree.root (L.take j)) := by
  unfold rts
  rw [List.getElem?_map, List.getElem?_range h]
  rfl
/-- a span in a variable of its own -/
def Sn (w w' : World) (g b e : Nat) : Prop := w'.heap[g]? = some (.cells #[.int .i64 (b : Int), .int .i64 (e : Int)] 47 (0, 0)) ∧ Below w.heap.size w w'
/-- s := span(..): the variable made behind the call, or ahead of it -/
theorem span_both (n m : Int) (s : Nat) (hs : s ≤ 1099511627776) (hn : -9223372036854775808 ≤ n ∧ n ≤ 9223372036854775807) (hm : -9223372036854775808 ≤ m ∧ m ≤ 9223372036854775807) (w : World) :
    (Calls Tryd.prog 22 #[.int .i64 n, .int .i64 m, .int .i64 (s : Int)] w.drew fun r w' => ∃ b e : Nat, r = .returned (.agg #[.int .i64 (b : Int), .int .i64 (e : Int)]) ∧ b ≤ e ∧ e ≤ s ∧ Hid (Below w.heap.size w w') ∧ Hid (Sn w (w'.alloc (.cells #[Value.int .i64 (b : Int), .int .i64 (e : Int)] 47)) w'.heap.size b e)) ∧
    (Calls Tryd.prog 22 #[.int .i64 n, .int .i64 m, .int .i64 (s : Int)] (w.alloc (.cells #[Value.int .i64 0, .int .i64 0] 47)).drew fun r w' => ∃ b e : Nat, r = .returned (.agg #[.int .i64 (b : Int), .int .i64 (e : Int)]) ∧ b ≤ e ∧ e ≤ s ∧ Hid (Below w.heap.size w w') ∧ Hid (Sn w ((w'.setCell ⟨w.heap.size, 0, none⟩ (.int .i64 (b : Int))).setCell ⟨w.heap.size, 1, none⟩ (.int .i64 (e : Int))) w.heap.size b e) ∧ w'.heap[w.heap.size]? = some (.cells #[.int .i64 0, .int .i64 0] 47 (0, 0))) := by
  have az := (Below.refl w.heap.size w).alloc (Nat.le_refl _) (.cells #[Value.int .i64 0, .int .i64 0] 47)
  have rz := heap_alloc_new w (.cells #[Value.int .i64 0, .int .i64 0] 47)
  constructor
  · refine (lspan_any n m s hs hn hm w.drew).mono ?_
    rintro r w' ⟨b, e, rfl, h1, h2, h3⟩
    have b1 := drewBelow5 h3
    have hal := (Below.refl w'.heap.size w').alloc (Nat.le_refl _) (.cells #[Value.int .i64 (b : Int), .int .i64 (e : Int)] 47)
    exact ⟨b, e, rfl, h1, h2, hid b1, hid ⟨heap_alloc_new w' _, b1.trans (hal.mono b1.size)⟩⟩
  · refine (lspan_any n m s hs hn hm _).mono ?_
    rintro r w' ⟨b, e, rfl, h1, h2, h3⟩
    have b1 := drewBelow5 h3
    have b2 := az.trans (b1.mono az.size)
    have r2 := (b1.block w.heap.size (by rw [size_alloc]; omega)).trans rz
    have r3 := heap_setCell_same w' w.heap.size 0 _ _ (.int .i64 (b : Int)) r2
    have r4 := heap_setCell_same _ w.heap.size 1 _ _ (.int .i64 (e : Int)) r3
    exact ⟨b, e, rfl, h1, h2, hid b2, hid ⟨r4, (b2.setCell (p := ⟨w.heap.size, 0, none⟩) (Nat.le_refl _) _).setCell (p := ⟨w.heap.size, 1, none⟩) (Nat.le_refl _) _⟩, r2⟩
/-- two cells -/
def S22 (p q : Addr) (x y : Value) (w : World) : Prop := w.cell? p = some x ∧ w.cell? q = some y
theorem S22.below {p q : Addr} {x y : Value} {w w' : World} {B : Nat} (h : S22 p q x y w) (hb : Below B w w') (h1 : p.block < B) (h2 : q.block < B) : S22 p q x y w' := ⟨(hb.cell h1).trans h.1, (hb.cell h2).trans h.2⟩
theorem Part_nat {L : List (List UInt8)} (hL : Tree.Hs L) (hl : L.length ≤ 4096) {b e : Nat} (hb : b ≤ e) (he : e ≤ L.length) (a : Option Addr) (cap : Nat) (w : World) (hlc : L.length ≤ cap) (hc : cap ≤ 9223372036854775807) (hA : At w a L) (T : Tabs w) :
    Calls Tryd.prog 24 #[.slice a L.length cap, .agg #[.int .i64 (b : Int), .int .i64 (e : Int)]] w fun r w' => r = .returned (.tuple #[sv (Tree.root (Til.sg L b e)), .int .i64 0]) ∧ Below w.heap.size w w' := by
  have := Part_any L (b : Int) (e : Int) a cap w hlc hc hA T
  rwa [partOut, if_pos (wrg_hs hL hl), if_pos (by omega), Int.toNat_natCast, Int.toNat_natCast] at this
end Go.Proofs.YtagplmnnbjidmaaDoor
