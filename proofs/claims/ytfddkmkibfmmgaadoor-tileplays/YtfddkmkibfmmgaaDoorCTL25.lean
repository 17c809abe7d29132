import Derived.Test.YtfddkmkibfmmgaaDoorCTL32
import Derived.Test.YtfddkmkibfmmgaaDoorCO15
import Derived.Test.YtfddkmkibfmmgaaDoorCO28
namespace Go.Proofs.YtfddkmkibfmmgaaDoor
open Go.RowKit
/-- an edge and two lists, that share nothing, from block B on -/
structure RG (w : World) (B qg : Nat) (Le Lr Ll : List (List UInt8)) (vr vl : Value) (F : Nat → Prop) : Prop where
  ed : EdL w qg Le F
  or : Own w B vr (svs Lr)
  ol : Own w B vl (svs Ll)
  fr : ∀ j, vr.ownBlock = some j → ¬ F j
  fl : ∀ j, vl.ownBlock = some j → ¬ F j
  rl : ∀ j, vr.ownBlock = some j → vl.ownBlock ≠ some j
  lo : ∀ j, F j → B ≤ j
  sz : B ≤ w.heap.size
theorem RG.below {w w' : World} {B qg : Nat} {Le Lr Ll : List (List UInt8)} {vr vl : Value} {F : Nat → Prop} (h : RG w B qg Le Lr Ll vr vl F) (hb : Below w.heap.size w w') : RG w' B qg Le Lr Ll vr vl F :=
  ⟨Ed.below h.ed hb, h.or.below hb (Nat.le_refl _), h.ol.below hb (Nat.le_refl _), h.fr, h.fl, h.rl, h.lo, Nat.le_trans h.sz hb.size⟩
theorem RG.pushR {w w' : World} {B qg : Nat} {Le Lr Lr' Ll : List (List UInt8)} {vr vr' vl : Value} {F : Nat → Prop} (h : RG w B qg Le Lr Ll vr vl F) (hg : Grow w w' vr vr') (ho : Own w' B vr' (svs Lr')) : RG w' B qg Le Lr' Ll vr' vl F ∧ Below B w w' := by
  have hk := hg.keep
  have hnew : ∀ j, vr'.ownBlock = some j → vr.ownBlock = some j ∨ w.heap.size ≤ j := fun j hj => by
    rcases hg.alt with e | ⟨e, _⟩
    · exact .inl (e ▸ hj)
    · exact .inr (e j hj)
  refine ⟨⟨Ed.keep h.ed hk fun k hk e => h.fr k e hk, ho, h.ol.keep hk fun k hk e => h.rl k e hk, fun j hj hF => ?_, h.fl, fun j hj e => ?_, h.lo, Nat.le_trans h.sz hg.size⟩, hk.toBelow h.sz fun k hk => h.or.ge k hk⟩
  · rcases hnew j hj with e | e
    · exact h.fr j e hF
    · have := (Ed.lt h.ed j hF).2; omega
  · rcases hnew j hj with e1 | e1
    · exact h.rl j e1 e
    · have := h.ol.ltS j e; omega
theorem RG.pushL {w w' : World} {B qg : Nat} {Le Lr Ll Ll' : List (List UInt8)} {vr vl vl' : Value} {F : Nat → Prop} (h : RG w B qg Le Lr Ll vr vl F) (hg : Grow w w' vl vl') (ho : Own w' B vl' (svs Ll')) : RG w' B qg Le Lr Ll' vr vl' F ∧ Below B w w' := by
  have hk := hg.keep
  have hnew : ∀ j, vl'.ownBlock = some j → vl.ownBlock = some j ∨ w.heap.size ≤ j := fun j hj => by
    rcases hg.alt with e | ⟨e, _⟩
    · exact .inl (e ▸ hj)
    · exact .inr (e j hj)
  refine ⟨⟨Ed.keep h.ed hk fun k hk e => h.fl k e hk, h.or.keep hk fun k hk e => h.rl k hk e, ho, h.fr, fun j hj hF => ?_, fun j hj e => ?_, h.lo, Nat.le_trans h.sz hg.size⟩, hk.toBelow h.sz fun k hk => h.ol.ge k hk⟩
  · rcases hnew j hj with e | e
    · exact h.fl j e hF
    · have := (Ed.lt h.ed j hF).2; omega
  · rcases hnew j e with e1 | e1
    · exact h.rl j hj e1
    · have := h.or.ltS j hj; omega
theorem RG.add {w w' : World} {B qg : Nat} {Le Le' Lr Ll : List (List UInt8)} {vr vl : Value} {F F' : Nat → Prop} (h : RG w B qg Le Lr Ll vr vl F) (hm : Mov F w w' F') (he : EdL w' qg Le' F') : RG w' B qg Le' Lr Ll vr vl F' ∧ Below B w w' := by
  obtain ⟨b1, b2⟩ := hm.below h.sz h.lo
  refine ⟨⟨he, h.or.keep hm.keep h.fr, h.ol.keep hm.keep h.fl, fun j hj hF => ?_, fun j hj hF => ?_, h.rl, b2, Nat.le_trans h.sz b1.size⟩, b1⟩
  · rcases hm.new j hF with e | e
    · exact h.fr j hj e
    · have := h.or.ltS j hj; omega
  · rcases hm.new j hF with e | e
    · exact h.fl j hj e
    · have := h.ol.ltS j hj; omega
theorem append_S (w : World) (B : Nat) (v : Value) (H : List (List UInt8)) (x : List UInt8) (hown : Own w B v (svs H)) (hlen : H.length ≤ 2000000) (hB : B ≤ w.heap.size) :
    ∃ v' w', (Builtin.append_ #[33, 33] 33 #[v, .slice (some ⟨w.heap.size, 0, none⟩) 1 1]).run Tryd.prog (w.alloc (.cells #[.string ⟨x.toArray⟩] 9)) = .ok v' w' ∧ Own w' B v' (svs (H ++ [x])) ∧ Grow w w' v v' := by
  have h := append_one 33 9 (.string ⟨#[]⟩) 16 (by omega) undSlS infoS rfl w B v (svs H) (sv x) rfl hown (by rw [svs_length]; exact hlen) hB
  rw [show svs H ++ [sv x] = svs (H ++ [x]) by simp [svs]] at h
  exact h
/-- the roots of the past -/
def rts (L : List (List UInt8)) (k : Nat) : List (List UInt8) := (List.range k).map fun j => Tree.root (L.take j)
theorem rts_succ (L : List (List UInt8)) (k : Nat) : rts L (k + 1) = rts L k ++ [Tree.root (L.take k)] := by unfold rts; rw [List.range_succ, List.map_append]; rfl
theorem rts_len (L : List (List UInt8)) (k : Nat) : (rts L k).length = k := by unfold rts; rw [List.length_map, List.length_range]
theorem rts_get {L : List (List UInt8)} {k j : Nat} (h : j < k) : (rts L k)[j]? = some (Tree.root (L.take j)) := by
  unfold rts
  rw [List.getElem?_map, List.getElem?_range h]
  rfl
/-- a span in a variable of its own -/
def Sn (w w' : World) (g b e : Nat) : Prop := w'.heap[g]? = some (.cells #[.int .i64 (b : Int), .int .i64 (e : Int)] 47 (0, 0)) ∧ Below w.heap.size w w'
/-- s := span(..): the variable made behind the call, or ahead of it -/
theorem span_both (n m : Int) (s : Nat) (hs : s ≤ 1099511627776) (hn : -9223372036854775808 ≤ n ∧ n ≤ 9223372036854775807) (hm : -9223372036854775808 ≤ m ∧ m ≤ 9223372036854775807) (w : World) :
    (Calls Tryd.prog 22 #[.int .i64 n, .int .i64 m, .int .i64 (s : Int)] w.drew fun r w' => ∃ b e : Nat, r = .returned (.agg #[.int .i64 (b : Int), .int .i64 (e : Int)]) ∧ b ≤ e ∧ e ≤ s ∧ Hid (Below w.heap.size w w') ∧ Hid (Sn w (w'.alloc (.cells #[Value.int .i64 (b : Int), .int .i64 (e : Int)] 47)) w'.heap.size b e)) ∧
    (Calls Tryd.prog 22 #[.int .i64 n, .int .i64 m, .int .i64 (s : Int)] (w.alloc (.cells #[Value.int .i64 0, .int .i64 0] 47)).drew fun r w' => ∃ b e : Nat, r = .returned (.agg #[.int .i64 (b : Int), .int .i64 (e : Int)]) ∧ b ≤ e ∧ e ≤ s ∧ Hid (Below w.heap.size w w') ∧ Hid (Sn w ((w'.setCell ⟨w.heap.size, 0, none⟩ (.int .i64 (b : Int))).setCell ⟨w.heap.size, 1, none⟩ (.int .i64 (e : Int))) w.heap.size b e) ∧ w'.heap[w.heap.size]? = some (.cells #[.int .i64 0, .int .i64 0] 47 (0, 0))) := by
  have az := (Below.refl w.heap.size w).alloc (Nat.le_refl _) (.cells #[Value.int .i64 0, .int .i64 0] 47)
  have rz := heap_alloc_new w (.cells #[Value.int .i64 0, .int .i64 0] 47)
  constructor
  · refine (lspan_any n m s hs hn hm w.drew).mono ?_
    rintro r w' ⟨b, e, rfl, h1, h2, h3⟩
    have b1 := drewBelow5 h3
    have hal := (Below.refl w'.heap.size w').alloc (Nat.le_refl _) (.cells #[Value.int .i64 (b : Int), .int .i64 (e : Int)] 47)
    exact ⟨b, e, rfl, h1, h2, hid b1, hid ⟨heap_alloc_new w' _, b1.trans (hal.mono b1.size)⟩⟩
  · refine (lspan_any n m s hs hn hm _).mono ?_
    rintro r w' ⟨b, e, rfl, h1, h2, h3⟩
    have b1 := drewBelow5 h3
    have b2 := az.trans (b1.mono az.size)
    have r2 := (b1.block w.heap.size (by rw [size_alloc]; omega)).trans rz
    have r3 := heap_setCell_same w' w.heap.size 0 _ _ (.int .i64 (b : Int)) r2
    have r4 := heap_setCell_same _ w.heap.size 1 _ _ (.int .i64 (e : Int)) r3
    exact ⟨b, e, rfl, h1, h2, hid b2, hid ⟨r4, (b2.setCell (p := ⟨w.heap.size, 0, none⟩) (Nat.le_refl _) _).setCell (p := ⟨w.heap.size, 1, none⟩) (Nat.le_refl _) _⟩, r2⟩
/-- two cells -/
def S22 (p q : Addr) (x y : Value) (w : World) : Prop := w.cell? p = some x ∧ w.cell? q = some y
theorem S22.below {p q : Addr} {x y : Value} {w w' : World} {B : Nat} (h : S22 p q x y w) (hb : Below B w w') (h1 : p.block < B) (h2 : q.block < B) : S22 p q x y w' := ⟨(hb.cell h1).trans h.1, (hb.cell h2).trans h.2⟩
theorem Part_nat {L : List (List UInt8)} (hL : Tree.Hs L) (hl : L.length ≤ 4096) {b e : Nat} (hb : b ≤ e) (he : e ≤ L.length) (a : Option Addr) (cap : Nat) (w : World) (hlc : L.length ≤ cap) (hc : cap ≤ 9223372036854775807) (hA : At w a L) (T : Tabs w) :
    Calls Tryd.prog 24 #[.slice a L.length cap, .agg #[.int .i64 (b : Int), .int .i64 (e : Int)]] w fun r w' => r = .returned (.tuple #[sv (Tree.root (Til.sg L b e)), .int .i64 0]) ∧ Below w.heap.size w w' := by
  have := Part_any L (b : Int) (e : Int) a cap w hlc hc hA T
  rwa [partOut, if_pos (wrg_hs hL hl), if_pos (by omega), Int.toNat_natCast, Int.toNat_natCast] at this
end Go.Proofs.YtfddkmkibfmmgaaDoor

namespace Go.Proofs.YtfddkmkibfmmgaaDoor
open Go.RowKit

/-- append([]string(nil), l...): a list of one's own with l's texts -/
theorem append_at (w : World) (a : Option Addr) (cap : Nat) (L : List (List UInt8)) (hA : At w a L) (hlen : L.length ≤ 8796093022208) :
    ∃ v' w', (Builtin.append_ #[33, 33] 33 #[.slice none 0 0, .slice a L.length cap]).run Tryd.prog w = .ok v' w' ∧ Own w' w.heap.size v' (svs L) ∧ Below w.heap.size w w' := by
  obtain ⟨i0, hi, hz0, hz1, hz2⟩ := info_parts infoS
  by_cases h0 : L.length = 0
  · obtain rfl : L = [] := List.length_eq_zero_iff.1 h0
    refine ⟨_, w, append_zero w _ ?_, Own.nil _ _, Below.refl _ _⟩
    cases a with
    | none => exact Src.ofNil w Tryd.underlying33 cap
    | some x => exact Src.ofSlice w Tryd.underlying33 x 0 cap [] (by simp) (fun j u hj => by simp at hj) (fun u hu => by simp at hu)
  · obtain ⟨x, rfl⟩ := hA.pos (by omega)
    have hsrc : Src Tryd.prog 1 33 (.slice (some x) L.length cap) L.length (svs L) w :=
      Src.ofSlice w Tryd.underlying33 x L.length cap (svs L) (by rw [svs_length, Nat.mul_one]) (fun j u hj => by
        rw [svs, List.getElem?_map] at hj
        cases hp : L[j]? with
        | none => rw [hp] at hj; cases hj
        | some p =>
          rw [hp] at hj
          obtain rfl := Option.some.inj hj
          obtain ⟨y, e, _, hc⟩ := hA j p hp
          cases e
          exact hc) (fun u hu => svs_one hu)
    obtain ⟨v', w', h1, h2, h3, h4⟩ := run_append_O (P := Tryd.prog) w w.heap.size 33 33 33 9 i0 (.string ⟨#[]⟩) Tryd.underlying33 hi hz0 hz1 rfl (.slice none 0 0) (svs []) (Own.nil _ _) _ L.length (svs L) hsrc
      (by rw [svs_length, hz2]; simp; omega) (by rw [svs_length, maxLen]; simp; omega) (Nat.le_refl _) (fun _ => by omega)
    exact ⟨v', w', h1, by simpa [svs] using h2, Below.ofGrown h3 (Own.nil w w.heap.size).ge (Nat.le_refl _)⟩
end Go.Proofs.YtfddkmkibfmmgaaDoor

namespace Go.Proofs.YtfddkmkibfmmgaaDoor
open Go.RowKit
/-- the blocks of the document's tree -/
def Rb (q : Nat) (v : Value) (k : Nat) : Prop := k = q ∨ v.ownBlock = some k
/-- the document's tree: a height and a list of leaves -/
structure RtL (w : World) (q h : Nat) (L : List (List UInt8)) (F : Nat → Prop) : Prop where
  ex : ∃ v, w.heap[q]? = some (.cells #[.int .i64 (h : Int), v] 94 (0, 0)) ∧ Own w 0 v (svs L) ∧ v.ownBlock ≠ some q ∧ F = Rb q v
  hs : Tree.Hs L
  h1 : 1 ≤ h
  h8 : h ≤ 8
  low : ∀ k, F k → 4 ≤ k
  n20 : L.length ≤ 1048576
theorem RtL.lt {w : World} {q h : Nat} {L : List (List UInt8)} {F : Nat → Prop} (t : RtL w q h L F) : ∀ k, F k → k < w.heap.size := by
  obtain ⟨⟨v, r1, o1, _, rfl⟩, _, _, _, _, _⟩ := t
  rintro k (rfl | hk)
  · exact lt_of_heap r1
  · exact o1.ltS k hk
theorem RtL.keep {w w' : World} {q h : Nat} {L : List (List UInt8)} {F S : Nat → Prop} (t : RtL w q h L F) (hk : Keep S w w') (hd : ∀ k, F k → ¬ S k) : RtL w' q h L F := by
  have hlt := t.lt
  obtain ⟨⟨v, r1, o1, n1, rfl⟩, h2, h3, h4, h5, h6⟩ := t
  exact ⟨⟨v, (hk.block q (lt_of_heap r1) (hd q (.inl rfl))).trans r1, o1.keep hk fun k e => hd k (.inr e), n1, rfl⟩, h2, h3, h4, h5, h6⟩
theorem RtL.below {w w' : World} {q h : Nat} {L : List (List UInt8)} {F : Nat → Prop} (t : RtL w q h L F) (hb : Below w.heap.size w w') : RtL w' q h L F :=
  t.keep (Keep.ofBelow (S := fun _ => False) hb) fun _ _ e => e
theorem RtL.mov {w w' : World} {q h : Nat} {L : List (List UInt8)} {F G G' : Nat → Prop} (t : RtL w q h L F) (hm : Mov G w w' G') (hd : ∀ k, F k → ¬ G k) : RtL w' q h L F ∧ ∀ k, F k → ¬ G' k :=
  ⟨t.keep hm.keep hd, fun k hk e => by
    rcases hm.new k e with e | e
    · exact hd k hk e
    · have := t.lt k hk; omega⟩
/-- what lies in its row -/
theorem RtL.open {w : World} {q h : Nat} {L : List (List UInt8)} {F : Nat → Prop} (t : RtL w q h L F) : ∃ a c, w.heap[q]? = some (.cells #[.int .i64 (h : Int), .slice a L.length c] 94 (0, 0)) ∧ Own w 0 (.slice a L.length c) (svs L) ∧ (Value.slice a L.length c).ownBlock ≠ some q ∧ F = Rb q (.slice a L.length c) ∧ At w a L ∧ L.length ≤ c ∧ c ≤ 9223372036854775807 := by
  obtain ⟨⟨v, r1, o1, n1, rfl⟩, _, _, _, _, _⟩ := t
  obtain ⟨a, c, rfl, hA, h1, h2⟩ := o1.at
  exact ⟨a, c, r1, o1, n1, rfl, hA, h1, h2⟩
set_option maxRecDepth 100000 in
theorem rSizeL {w : World} {q h : Nat} {L : List (List UInt8)} {F : Nat → Prop} (t : RtL w q h L F) : Calls Tryd.prog 49 #[.pointer (some ⟨q, 0, none⟩)] w fun r w' => r = .returned (.int .i64 (L.length : Int)) ∧ w' = w := by
  obtain ⟨a, c, r1, _, _, _, _, _, _⟩ := t.open
  have c1 : w.cell? ⟨q, 1, none⟩ = some (.slice a L.length c) := by rw [cell_of_row _ _ _ _ _ _ r1]; rfl
  clear r1 t
  generalize L.length = n at *
  go_enter Tryd.func49, Tryd.ntmps49
  go_wp2
  go_ret
  exact ⟨rfl, rfl⟩
set_option maxRecDepth 100000 in
theorem rHeightL {w : World} {q h : Nat} {L : List (List UInt8)} {F : Nat → Prop} (t : RtL w q h L F) : Calls Tryd.prog 56 #[.pointer (some ⟨q, 0, none⟩)] w fun r w' => r = .returned (.int .i64 (h : Int)) ∧ w' = w := by
  obtain ⟨a, c, r1, _, _, _, _, _, _⟩ := t.open
  have c1 : w.cell? ⟨q, 0, none⟩ = some (.int .i64 (h : Int)) := by rw [cell_of_row _ _ _ _ _ _ r1]; rfl
  clear r1 t
  go_enter Tryd.func56, Tryd.ntmps56
  go_wp2
  go_ret
  exact ⟨rfl, rfl⟩
set_option maxRecDepth 100000 in
theorem rNew_any (h : Nat) (h1 : 1 ≤ h) (h8 : h ≤ 8) (w : World) (hT : 4 ≤ w.heap.size) : Calls Tryd.prog 29 #[.int .i64 (h : Int)] w fun r w' => ∃ q F, r = .returned (.tuple #[.pointer (some ⟨q, 0, none⟩), .int .i64 0]) ∧ RtL w' q h [] F ∧ (∀ k, F k → w.heap.size ≤ k) ∧ Below w.heap.size w w' := by
  have c0 : ¬ (h : Int) < 1 := by omega
  have c1 : ¬ (h : Int) > 8 := by omega
  have c2 : ¬ 8 < (h : Int) := by omega
  go_enter Tryd.func29, Tryd.ntmps29
  go_wp2
  go_ret2
  have b1 := (Below.refl w.heap.size w).alloc (Nat.le_refl _) (.cells #[Value.int .i64 (h : Int), .slice none 0 0] 94)
  have r1 := heap_alloc_new w (.cells #[Value.int .i64 (h : Int), .slice none 0 0] 94)
  have hF : ∀ k, Rb w.heap.size (.slice none 0 0) k → w.heap.size ≤ k := fun k hk => by
    rcases hk with hk | hk
    · omega
    · cases hk
  exact ⟨w.heap.size, rfl, _, ⟨⟨_, r1, Own.nil _ _, (fun e => by cases e), rfl⟩, fun x hx => (by cases hx), h1, h8, fun k hk => Nat.le_trans hT (hF k hk), by simp⟩, hF, b1⟩
set_option maxRecDepth 100000 in
theorem rNew_bad (h : Int) (h1 : h < 1 ∨ 8 < h) (w : World) : Calls Tryd.prog 29 #[.int .i64 h] w fun r w' => r = .returned (.tuple #[.pointer none, .int .i64 70]) ∧ w' = w := by
  by_cases hc : h < 1
  · go_enter Tryd.func29, Tryd.ntmps29
    go_wp2
    go_ret2
    exact ⟨rfl, rfl⟩
  · have c1 : h > 8 := by omega
    go_enter Tryd.func29, Tryd.ntmps29
    go_wp2
    go_ret2
    exact ⟨rfl, rfl⟩
set_option maxRecDepth 100000 in
theorem rAdd_bad (q : Nat) (x : List UInt8) (hx : x.length ≠ 32) (w : World) : Calls Tryd.prog 50 #[.pointer (some ⟨q, 0, none⟩), sv x] w fun r w' => r = .returned (.int .i64 71) ∧ w' = w := by
  have hs := sv_size x
  have c0 : (((ByteArray.mk x.toArray).size : Int) != 32) = true := by rw [hs]; simp; omega
  show Calls _ _ #[_, .string ⟨x.toArray⟩] _ _
  go_enter Tryd.func50, Tryd.ntmps50
  go_wp2
  go_ret
  exact ⟨rfl, rfl⟩
set_option maxRecDepth 100000 in
set_option maxHeartbeats 1000000 in
theorem rAdd_full {w : World} {q h : Nat} {L : List (List UInt8)} {F : Nat → Prop} (t : RtL w q h L F) (x : List UInt8) (hx : x.length = 32) (hn : ¬ L.length < 1048576) : Calls Tryd.prog 50 #[.pointer (some ⟨q, 0, none⟩), sv x] w fun r w' => r = .returned (.int .i64 74) ∧ w' = w := by
  have hs := sv_size x
  have c0 : (((ByteArray.mk x.toArray).size : Int) != 32) = false := by rw [hs, hx]; rfl
  obtain ⟨a, c, r1, _, _, _, _, _, _⟩ := t.open
  have c1 : w.cell? ⟨q, 1, none⟩ = some (.slice a L.length c) := by rw [cell_of_row _ _ _ _ _ _ r1]; rfl
  clear r1 t hs
  generalize L.length = n at *
  have c2 : (n : Int) ≥ 1048576 := by omega
  show Calls _ _ #[_, .string ⟨x.toArray⟩] _ _
  go_enter Tryd.func50, Tryd.ntmps50
  go_wp2
  go_ret
  exact ⟨rfl, rfl⟩
set_option maxRecDepth 100000 in
set_option maxHeartbeats 1000000 in
theorem rAdd_any {w : World} {q h : Nat} {L : List (List UInt8)} {F : Nat → Prop} (t : RtL w q h L F) (x : List UInt8) (hx : x.length = 32) (hn : L.length < 1048576) (hT : 4 ≤ w.heap.size) : Calls Tryd.prog 50 #[.pointer (some ⟨q, 0, none⟩), sv x] w fun r w' => r = .returned (.int .i64 0) ∧ ∃ F', RtL w' q h (L ++ [x]) F' ∧ Mov F w w' F' := by
  have hs := sv_size x
  have c0 : (((ByteArray.mk x.toArray).size : Int) != 32) = false := by rw [hs, hx]; rfl
  have hsx : Tree.Hs (L ++ [x]) := fun y hy => by
    rcases List.mem_append.1 hy with hy | hy
    · exact t.hs y hy
    · rw [List.mem_singleton.1 hy]; exact hx
  obtain ⟨a, c, r1, o1, n1, rfl, _, _, _⟩ := t.open
  obtain ⟨_, _, g1, g8, glow, _⟩ := t
  have c1 : w.cell? ⟨q, 1, none⟩ = some (.slice a L.length c) := by rw [cell_of_row _ _ _ _ _ _ r1]; rfl
  obtain ⟨v', w', hap, o2, gr⟩ := append_S w 0 _ L x o1 (by omega) (Nat.zero_le _)
  have hq := lt_of_heap r1
  have r2 := (gr.old q hq n1).trans r1
  have f2 : w'.frozen? ⟨q, 1, none⟩ = false := frozen_of_row _ _ _ _ _ r2
  have c2' : w'.cell? ⟨q, 1, none⟩ = some (.slice a L.length c) := by rw [cell_of_row _ _ _ _ _ _ r2]; rfl
  have fin : Hid (∃ F', RtL (w'.setCell ⟨q, 1, none⟩ v') q h (L ++ [x]) F' ∧ Mov (Rb q (.slice a L.length c)) w (w'.setCell ⟨q, 1, none⟩ v') F') := by
    have hnew : ∀ k, v'.ownBlock = some k → (Value.slice a L.length c).ownBlock = some k ∨ w.heap.size ≤ k := fun k hk => by
      rcases gr.alt with e | ⟨e, _⟩
      · left; rw [← e]; exact hk
      · right; exact e k hk
    have hne : v'.ownBlock ≠ some q := fun e => by
      rcases hnew q e with e' | e'
      · exact n1 e'
      · omega
    have hm : Mov (Rb q (.slice a L.length c)) w (w'.setCell ⟨q, 1, none⟩ v') (Rb q v') := by
      refine ⟨(gr.keep.mono fun _ _ e => .inr e).trans (Keep.ofSet (S := fun k => k = q) w' q 1 v' rfl) fun _ _ e => .inl e, fun k hk => ?_⟩
      rcases hk with e | e
      · exact .inl (.inl e)
      · rcases hnew k e with e | e
        · exact .inl (.inr e)
        · exact .inr e
    refine ⟨Rb q v', ⟨⟨v', heap_setCell_same w' q 1 _ _ _ r2, o2.keep (Keep.ofSet (S := fun k => k = q) w' q 1 v' rfl) (fun k hk e => hne (e ▸ hk)), hne, rfl⟩, hsx, g1, g8, fun k hk => ?_, ?_⟩, hm⟩
    · rcases hm.new k hk with e | e
      · exact glow k e
      · omega
    · rw [List.length_append]; simp; omega
  obtain ⟨a', c', hv⟩ := o2.shape
  clear r1 r2 o1 o2 gr glow hsx hs n1
  subst hv
  generalize (svs (L ++ [x])).length = n' at *
  generalize L.length = n at *
  have c3 : ¬ (n : Int) ≥ 1048576 := by omega
  rw [show sv x = Value.string ⟨x.toArray⟩ from rfl]
  go_enter Tryd.func50, Tryd.ntmps50
  go_wp2_with (at_builtin; go_must (refine Lib.wpList_append_run _ rfl _ _ 33 33 rfl _ _ rfl rfl _ _ hap ?_); clear hap)
  go_ret
  exact ⟨rfl, fin.out⟩
set_option maxRecDepth 100000 in
set_option maxHeartbeats 1000000 in
theorem rClone_any {w : World} {q h : Nat} {L : List (List UInt8)} {F : Nat → Prop} (t : RtL w q h L F) (hT : 4 ≤ w.heap.size) : Calls Tryd.prog 55 #[.pointer (some ⟨q, 0, none⟩)] w fun r w' => ∃ q' F', r = .returned (.pointer (some ⟨q', 0, none⟩)) ∧ RtL w' q' h L F' ∧ (∀ k, F' k → w.heap.size ≤ k) ∧ Below w.heap.size w w' := by
  obtain ⟨a, c, r1, o1, n1, rfl, hA, _, _⟩ := t.open
  have c0 : w.cell? ⟨q, 0, none⟩ = some (.int .i64 (h : Int)) := by rw [cell_of_row _ _ _ _ _ _ r1]; rfl
  have c1 : w.cell? ⟨q, 1, none⟩ = some (.slice a L.length c) := by rw [cell_of_row _ _ _ _ _ _ r1]; rfl
  have n20 := t.n20
  obtain ⟨v', w', hap, o2, b2⟩ := append_at w a c L hA (by omega)
  have hq := lt_of_heap r1
  have d0 := (b2.cell (p := ⟨q, 0, none⟩) hq).trans c0
  have fin : Hid (∃ F', RtL (w'.alloc (.cells #[Value.int .i64 (h : Int), v'] 94)) w'.heap.size h L F' ∧ (∀ k, F' k → w.heap.size ≤ k) ∧ Below w.heap.size w (w'.alloc (.cells #[Value.int .i64 (h : Int), v'] 94))) := by
    have b3 := b2.alloc b2.size (.cells #[Value.int .i64 (h : Int), v'] 94)
    have r3 := heap_alloc_new w' (.cells #[Value.int .i64 (h : Int), v'] 94)
    have hF : ∀ k, Rb w'.heap.size v' k → w.heap.size ≤ k := fun k hk => by
      rcases hk with e | e
      · have := b2.size; omega
      · exact o2.ge k e
    refine ⟨_, ⟨⟨v', r3, (o2.mono (Nat.zero_le _)).alloc _, fun e => ?_, rfl⟩, t.hs, t.h1, t.h8, fun k hk => Nat.le_trans hT (hF k hk), n20⟩, hF, b3⟩
    have := o2.ltS _ e; omega
  obtain ⟨a', c', hv⟩ := o2.shape
  clear r1 o1 o2 hA n1 t n20
  subst hv
  generalize (svs L).length = n' at *
  generalize L.length = n at *
  go_enter Tryd.func55, Tryd.ntmps55
  go_wp2_with (at_builtin; go_must (refine Lib.wpList_append_run _ rfl _ _ 33 33 rfl _ _ rfl rfl _ _ hap ?_); clear hap)
  go_ret
  obtain ⟨F', f⟩ := fin.out
  exact ⟨_, F', rfl, f⟩
end Go.Proofs.YtfddkmkibfmmgaaDoor
