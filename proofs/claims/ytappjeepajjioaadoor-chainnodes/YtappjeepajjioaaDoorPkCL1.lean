import Derived.Test.YtappjeepajjioaaDoorPkI9c
import Derived.Test.YtappjeepajjioaaDoorPkSP28
import Derived.Test.YtappjeepajjioaaDoorPkCL2
import Derived.Test.YtappjeepajjioaaDoorPkO8
import Derived.Lib.SmallJoins
namespace Go.Proofs.YtappjeepajjioaaDoor
open Go.RowKit Go.Shelf
namespace Chn
theorem nd356 : ndE [3, 5, 6] = 0 ∧ ndL [3, 5, 6] = [(2, 3), (3, 4), (0, 2), (4, 5), (5, 6)] := by decide +kernel
theorem nd4 : ndE [4] = 0 ∧ ndL [4] = [] := by decide +kernel
theorem nd22 : ndE [2, 2] = 130 ∧ ndL [2, 2] = [] := by decide +kernel
theorem hds4 : Hds [4] := by
  obtain ⟨hs, h1, h2⟩ := mayB_hds (cs := [4]) (by decide +kernel)
  have : hs = [4] := by rw [← ix_toN hs, ← h1]; rfl
  rw [← this]; exact h2
theorem ex12 : exE [1, 2] [] = 131 := by decide +kernel
theorem ck_x : ckO [1, 2] [Sha.sha [120]] [Sha.sha [120], Sha.sha [120]] = 132 := by decide +kernel
theorem at_one (w : World) (x : List UInt8) : At (w.alloc (.cells #[.string ⟨x.toArray⟩] 9)) (some ⟨w.heap.size, 0, none⟩) [x] := fun j p hp => by
  have h := heap_alloc_new w (.cells #[.string ⟨x.toArray⟩] 9)
  refine ⟨_, rfl, lt_of_heap h, ?_⟩
  rw [Addr.add_mid, Nat.zero_add, cell_of_row _ _ _ _ _ _ h]
  match j, hp with
  | 0, hp => simp at hp; subst hp; rfl
  | j + 1, hp => simp at hp
theorem at_twoC (w : World) (x z : List UInt8) : At (w.alloc (.cells #[.string ⟨x.toArray⟩, .string ⟨z.toArray⟩] 9)) (some ⟨w.heap.size, 0, none⟩) [x, z] := fun j p hp => by
  have h := heap_alloc_new w (.cells #[.string ⟨x.toArray⟩, .string ⟨z.toArray⟩] 9)
  refine ⟨_, rfl, lt_of_heap h, ?_⟩
  rw [Addr.add_mid, Nat.zero_add, cell_of_row _ _ _ _ _ _ h]
  match j, hp with
  | 0, hp => simp at hp; subst hp; rfl
  | 1, hp => simp at hp; subst hp; rfl
  | j + 2, hp => simp at hp
abbrev five : List (Int × Int) := [(2, 3), (3, 4), (0, 2), (4, 5), (5, 6)]
abbrev fiveO : Obj := .cells #[.int .i64 2, .int .i64 3, .int .i64 3, .int .i64 4, .int .i64 0, .int .i64 2, .int .i64 4, .int .i64 5, .int .i64 5, .int .i64 6] 45
theorem five_at (w : World) : AtP (w.alloc fiveO) (some ⟨w.heap.size, 0, none⟩) five := AtP.lit w five 45
theorem own_five {w : World} {a : Option Addr} {k : Nat} (h : OwnM 2 w (.slice a 5 k) 5 (prs [(2, 3), (3, 4), (0, 2), (4, 5), (5, 6)])) : AtP w a five := OwnP.atP (l := [(2, 3), (3, 4), (0, 2), (4, 5), (5, 6)]) h
theorem five_yes (w : World) (a : Option Addr) (k1 : Nat) (h : AtP (w.alloc fiveO) a five) : Calls Tryd.prog 12 #[.slice a 5 k1, .slice (some ⟨w.heap.size, 0, none⟩) 5 5] (w.alloc fiveO) fun e w' => e = .returned (.bool true) ∧ Below w.heap.size w w' := by
  have b0 := (Below.refl w.heap.size w).alloc (Nat.le_refl _) fiveO
  refine (spans_yes five a (some ⟨w.heap.size, 0, none⟩) k1 5 _ (by decide) h (five_at w)).mono ?_
  rintro r w' ⟨rfl, b1⟩
  exact ⟨rfl, b0.trans (b1.mono b0.size)⟩
set_option maxRecDepth 100000 in
set_option maxHeartbeats 2000000 in
theorem known13_any (w : World) (T : Tabs w) : Calls Tryd.prog 4 #[] w fun e w' => e = .returned (.bool true) ∧ Below w.heap.size w w' := by
  have i1 := fun w' => nodes13_any [3, 5, 6] 3 rfl (some ⟨w'.heap.size, 0, none⟩) 3 _ (AtI.lit w' [3, 5, 6] 3) (by omega)
  have i2 := fun w' => nodes13_any [4] 1 rfl (some ⟨w'.heap.size, 0, none⟩) 1 _ (AtI.lit w' [4] 3) (by omega)
  have i3 := fun w' => nodes13_any [2, 2] 2 rfl (some ⟨w'.heap.size, 0, none⟩) 2 _ (AtI.lit w' [2, 2] 3) (by omega)
  rw [nd356.1, nd356.2] at i1
  rw [nd4.1, nd4.2] at i2
  rw [nd22.1, nd22.2] at i3
  have b9 : ∀ (w' : World) (o : Obj), Below w.heap.size w w' → Below w.heap.size w (w'.alloc o) := fun w' o h => h.alloc h.size _
  have i4 := fun w' (bb : Below w.heap.size w w') => expandC_ok [4] hds4 [] 1 0 rfl rfl (by unfold Hid; decide +kernel) (some ⟨w'.heap.size, 0, none⟩) none 1 0 _ (AtI.lit w' [4] 3) (At.nil _ _) rfl (T.below (b9 w' _ bb) T.lt)
  have e4 : exL [4] [] = [] := rfl
  rw [e4] at i4
  have i5 := fun w' => expandC_bad [1, 2] [] 2 0 rfl rfl (some ⟨w'.heap.size, 0, none⟩) none 2 0 _ (AtI.lit w' [1, 2] 3) (At.nil _ _) (by omega) (by omega) (by rw [ex12]; decide)
  rw [ex12] at i5
  have i6 := fun w' v (bb : OwnP w' v [(2, 3), (3, 4), (0, 2), (4, 5), (5, 6)]) => (show ∃ a c, v = .slice a 5 c ∧ AtP w' a [(2, 3), (3, 4), (0, 2), (4, 5), (5, 6)] by
    obtain ⟨a, c, rfl, _, _⟩ := bb.shape
    exact ⟨a, c, rfl, bb.atP⟩)
  have i7 := fun w' => hash8_any ⟨#[120]⟩ (by decide) w'
  obtain ⟨X, hX⟩ : ∃ X, Sha.sha (⟨#[120]⟩ : ByteArray).data.toList = X := ⟨_, rfl⟩
  have hck : ckO [1, 2] [X] [X, X] = 132 := by rw [← hX]; exact ck_x
  rw [hX] at i7
  have i8 := fun w' (bb : Below w.heap.size w w') => checkC_any [1, 2] [X] [X, X] 2 1 2 rfl rfl rfl (some ⟨w'.heap.size, 0, none⟩) (some ⟨w'.heap.size + 1, 0, none⟩) (some ⟨w'.heap.size + 1 + 1, 0, none⟩) 2 1 2 (((w'.alloc (.cells #[.int .i64 1, .int .i64 2] 3)).alloc (.cells #[.string ⟨X.toArray⟩] 9)).alloc (.cells #[.string ⟨X.toArray⟩, .string ⟨X.toArray⟩] 9))
    (((AtI.lit w' [1, 2] 3).below ((Below.refl _ _).alloc (Nat.le_refl _) _) (Nat.le_refl _)).below ((Below.refl _ _).alloc (Nat.le_refl _) _) (Nat.le_refl _))
    (by have h := at_one (w'.alloc (.cells #[.int .i64 1, .int .i64 2] 3)) X; rw [size_alloc] at h; exact h.below ((Below.refl _ _).alloc (Nat.le_refl _) _) (Nat.le_refl _))
    (by have h := at_twoC ((w'.alloc (.cells #[.int .i64 1, .int .i64 2] 3)).alloc (.cells #[.string ⟨X.toArray⟩] 9)) X X; rw [size_alloc, size_alloc] at h; exact h)
    (T.below (b9 _ _ (b9 _ _ (b9 w' _ bb))) T.lt) (by omega) (by omega) (by omega)
  rw [hck] at i8
  rw [show sv X = .string ⟨X.toArray⟩ from rfl] at i7
  generalize (⟨X.toArray⟩ : ByteArray) = XB at *
  simp only [List.map_cons, List.map_nil] at i1 i2 i3 i4 i5
  have HB9 := hid b9
  clear hX hck b9 e4
  go_enter Tryd.func4, Tryd.ntmps4
  go_wp2_with (first
    | (go_at_call 10; (with_reducible refine (i1 _).mono ?_); rintro r w1 ⟨b1, v1, rfl, O1, _⟩; have c1' := HB9.out w (.cells #[.int .i64 3, .int .i64 5, .int .i64 6] 3) (Below.refl _ _); have B1 := hid (c1'.trans (b1.mono c1'.size)); have HO1 := hid O1; obtain ⟨a1, k1, rfl, _, _⟩ := (show OwnM 2 w1 v1 5 (prs [(2, 3), (3, 4), (0, 2), (4, 5), (5, 6)]) from O1).shape; clear b1 O1 c1')
    | (go_at_call 10; (with_reducible refine (i2 _).mono ?_); rintro r w2 ⟨b2, v2, rfl, O2, _⟩; have c2' := (Below.refl w1.heap.size w1).alloc (Nat.le_refl _) (.cells #[.int .i64 4] 3); have d2 := c2'.trans (b2.mono c2'.size); have B2 := hid (B1.out.trans (d2.mono B1.out.size)); have HO2 := hid (HO1.out.below d2); obtain ⟨a2, k2, rfl, _, _⟩ := (show OwnM 2 w2 v2 0 (prs []) from O2).shape; clear b2 O2 c2' d2)
    | (go_at_call 10; (with_reducible refine (i3 _).mono ?_); rintro r w3 ⟨b3, v3, rfl, O3, _⟩; have c3' := (Below.refl w2.heap.size w2).alloc (Nat.le_refl _) (.cells #[.int .i64 2, .int .i64 2] 3); have d3 := c3'.trans (b3.mono c3'.size); have B3 := hid (B2.out.trans (d3.mono B2.out.size)); have HO3 := hid (HO2.out.below d3); obtain ⟨a3, k3, rfl, _, _⟩ := (show OwnM 2 w3 v3 0 (prs []) from O3).shape; clear b3 O3 c3' d3)
    | (go_at_call 11; (with_reducible refine (i4 _ B3.out).mono ?_); rintro r w4 ⟨G, gs, rfl, _, _, _, _, b4⟩; have c4' := (Below.refl w3.heap.size w3).alloc (Nat.le_refl _) (.cells #[.int .i64 4] 3); have d4 := c4'.trans (b4.mono c4'.size); have B4 := hid (B3.out.trans (d4.mono B3.out.size)); have HO4 := hid (HO3.out.below d4); clear b4 c4' d4)
    | (go_at_call 11; (with_reducible refine (i5 _).mono ?_); rintro r w5 ⟨rfl, b5⟩; have c5' := (Below.refl w4.heap.size w4).alloc (Nat.le_refl _) (.cells #[.int .i64 1, .int .i64 2] 3); have d5 := c5'.trans (b5.mono c5'.size); have B5 := hid (B4.out.trans (d5.mono B4.out.size)); have HO5 := hid (HO4.out.below d5); clear b5 c5' d5)
    | (go_at_call 12; (refine (five_yes w5 a1 k1 (own_five (HO5.out.below ((Below.refl w5.heap.size w5).alloc (Nat.le_refl _) fiveO)))).mono ?_); rintro r w6 ⟨rfl, b6⟩; have B6 := hid (B5.out.trans (b6.mono B5.out.size)); clear b6)
    | (go_at_call 13; refine (i7 _).mono ?_; rintro r w7 ⟨rfl, b7⟩; have B7 := hid (B6.out.trans (b7.mono B6.out.size)); clear b7)
    | (go_at_call 14; refine (i8 _ B7.out).mono ?_; rintro r w8 ⟨rfl, b8⟩; have c8' := HB9.out _ (.cells #[.string XB, .string XB] 9) (HB9.out _ (.cells #[.string XB] 9) (HB9.out _ (.cells #[.int .i64 1, .int .i64 2] 3) B7.out)); have B8 := hid (c8'.trans (b8.mono c8'.size)); clear b8 c8'))
  go_ret
  exact ⟨rfl, B8.out⟩
end Chn
end Go.Proofs.YtappjeepajjioaaDoor

namespace Go.Proofs.YtappjeepajjioaaDoor
open Go.RowKit Go.Shelf
namespace Chn
theorem Bh.new {B0 X : Nat} {w : World} (hX : B0 ≤ X) (h : w.heap[X]? = some (.cells #[.slice none 0 0, .slice none 0 0, .slice none 0 0, .slice none 0 0, .slice none 0 0, .slice none 0 0, .slice none 0 0, .slice none 0 0, .slice none 0 0] 29 (0, 0))) :
    Bh B0 X w (fun k => if k = X then 1 else 0) w (.slice none 0 0) (.slice none 0 0) [] [] [] where
  bel := Below.refl _ _
  low := fun k hk => if_neg (by omega)
  row := h
  rX := if_pos rfl
  oh := OwnM.nil 1 _
  rh := fun k hk => by cases hk
  ow := OwnM.nil 1 _
  rw_ := fun k hk => by cases hk
  lh := rfl
  lw := rfl
  le := Nat.zero_le _
  own := fun j W e => by cases e
  want := fun j W e => by cases e
  fr := fun _ _ _ => rfl
  nh := fun k hk => by cases hk
  nw := fun k hk => by cases hk
theorem ne_book {w : World} {X : Nat} {a : Option Addr} {l : List Int} (h : w.heap[X]? = some (.cells #[.slice none 0 0, .slice none 0 0, .slice none 0 0, .slice none 0 0, .slice none 0 0, .slice none 0 0, .slice none 0 0, .slice none 0 0, .slice none 0 0] 29 (0, 0))) (hA : AtI w a l) : ∀ x : Addr, a = some x → l ≠ [] → x.block ≠ X := fun x e hl hb => by
  obtain ⟨p, l', rfl⟩ := List.exists_cons_of_ne_nil hl
  obtain ⟨y, e', h1, h2⟩ := hA 0 p rfl
  rw [e] at e'
  cases e'
  rw [show x.add 0 = x from rfl] at h2
  unfold World.cell? at h2
  rw [hb, h] at h2
  simp only at h2
  split at h2
  · cases h2
  · rcases hx : x.off with _ | _ | _ | _ | _ | _ | _ | _ | _ | k
    all_goals rw [hx] at h2
    all_goals simp at h2
/-- the book with so many lists, all short -/
structure Bo (B0 X : Nat) (w0 w : World) (n : Nat) : Prop where
  bh : ∃ ρ vh vw hv wv Ws, Bh B0 X w0 ρ w vh vw hv wv Ws ∧ Ws.length ≤ n ∧ ∀ W ∈ Ws, W.length ≤ 1099511627776
theorem Bo.below {B0 X : Nat} {w0 w w' : World} {n : Nat} (h : Bo B0 X w0 w n) (hB : B0 ≤ w0.heap.size) (hb : Below w.heap.size w w') : Bo B0 X w0 w' n := by
  obtain ⟨ρ, vh, vw, hv, wv, Ws, h1, h2, h3⟩ := h.bh
  exact ⟨ρ, vh, vw, hv, wv, Ws, h1.below hB hb ρ (fun _ _ => rfl), h2, h3⟩
theorem Bo.atI {B0 X : Nat} {w0 w : World} {n : Nat} (h : Bo B0 X w0 w n) {a : Option Addr} {l : List Int} (hA : AtI w0 a l) (hX : ∀ x : Addr, a = some x → l ≠ [] → x.block ≠ X) : AtI w a l := by
  obtain ⟨ρ, vh, vw, hv, wv, Ws, h1, h2, h3⟩ := h.bh
  exact h1.atI hA hX
theorem Bo.bel {B0 X : Nat} {w0 w : World} {n : Nat} (h : Bo B0 X w0 w n) : Below B0 w0 w := by
  obtain ⟨ρ, vh, vw, hv, wv, Ws, h1, h2, h3⟩ := h.bh
  exact h1.bel
theorem Bo.le {B0 X : Nat} {w0 w : World} {n m : Nat} (h : Bo B0 X w0 w n) (hm : n ≤ m) : Bo B0 X w0 w m := by
  obtain ⟨ρ, vh, vw, hv, wv, Ws, h1, h2, h3⟩ := h.bh
  exact ⟨ρ, vh, vw, hv, wv, Ws, h1, Nat.le_trans h2 hm, h3⟩
theorem Bo.nodes {B0 X : Nat} {w0 w : World} {n m : Nat} (h : Bo B0 X w0 w n) (hB : B0 ≤ w0.heap.size) (hn : n ≤ 100) (ps : List Int) (HM : Hid (ps.length = m)) (a : Option Addr) (cap : Nat) (hps : m ≤ 17592186044400) (A0 : AtI w a ps) :
    Calls Tryd.prog 6 #[.pointer (some ⟨X, 0, none⟩), .slice a m cap] w fun r w' => r = .returned (.bool true) ∧ (∃ ρ vh vw hv wv Ws, Bh B0 X w0 ρ w' vh vw hv wv Ws ∧ 0 < Ws.length ∧ ∀ W ∈ Ws, W.length ≤ 1099511627776) ∧ Bo B0 X w0 w' (n + 3) := by
  obtain ⟨ρ, vh, vw, hv, wv, Ws, h1, h2, h3⟩ := h.bh
  have := HM.out
  subst this
  refine (nodesB_any h1 hB (by omega) ps a cap hps A0).mono ?_
  rintro r w' ⟨rfl, ρ', vh', vw', hv', wv', h'⟩
  have hs : ∀ W ∈ Ws ++ [ndL ps] ++ [ndL ps] ++ [ndL (ps.map inc8)], W.length ≤ 1099511627776 := fun W hW => by
    simp only [List.mem_append, List.mem_singleton] at hW
    rcases hW with ((hW | rfl) | rfl) | rfl
    · exact h3 W hW
    · have := ndL_few ps; omega
    · have := ndL_few ps; omega
    · have := ndL_few (ps.map inc8); omega
  exact ⟨rfl, ⟨_, _, _, _, _, _, h', by simp, hs⟩, _, _, _, _, _, _, h', by simp; omega, hs⟩
set_option maxRecDepth 100000 in
set_option maxHeartbeats 4000000 in
theorem nodes13_law (size : Int) (cs : List Int) (N : Nat) (HN : Hid (cs.length = N)) (hs : -9223372036854775808 ≤ size ∧ size ≤ 9223372036854775807) (hcs : N ≤ 17592186043904) (hw : ∀ x ∈ cs, -9223372036854775808 ≤ x ∧ x ≤ 9223372036854775807) (a : Option Addr) (cap : Nat) (w : World) (hA : AtI w a cs) (Z : Tabs w) :
    Calls Tryd.prog 3 #[.slice a N cap, .int .i64 size] w fun r w' => r = .returned (.bool true) ∧ Below w.heap.size w w' := by
  have i0 := known13_any w Z
  obtain ⟨p1, hp1, hp1'⟩ : ∃ k : Nat, pk size 1099511627776 = (k : Int) ∧ k < 1099511627776 := by
    have q0 := pk_nonneg size 1099511627776 (by omega)
    have q1 := pk_lt size 1099511627776 (by omega)
    exact ⟨(pk size 1099511627776).toNat, by omega, by omega⟩
  have k1 := fun w' => pick_any size 1099511627776 hs.1 hs.2 (by omega) (by omega) w'
  rw [hp1] at k1
  obtain ⟨n, hn⟩ : ∃ n : Nat, n = p1 + 1 := ⟨_, rfl⟩
  have hnw : IntKind.i64.wrap (1 + (p1 : Int)) = (n : Int) := by rw [IntKind.wrap_i64]; omega
  have i2 := fun w' h => few13_any cs N HN a cap w' (by omega) h
  have r1 := fun w' h => rising13_any cs 90 64 (by omega) (by omega) (by omega) (by omega) N HN (by omega) a cap w' h hw
  have r2 := fun w' h => rising13_any cs n 6 (by omega) (by omega) (by omega) (by omega) N HN (by omega) a cap w' h hw
  rw [show ((90 : Nat) : Int) = 90 from rfl, show ((64 : Nat) : Int) = 64 from rfl] at r1
  rw [show ((6 : Nat) : Int) = 6 from rfl] at r2
  have HA := hid hA
  clear hn hp1 hp1' hA hw hs
  go_enter Tryd.func3, Tryd.ntmps3
  go_wp2_with (first
    | (go_at_call 4; refine i0.mono ?_; rintro r w1 ⟨rfl, b1⟩; have B1 := hid b1; clear i0 b1)
    | (go_at_call 5; fail))
  have hXB : w.heap.size ≤ w1.heap.size := B1.out.size
  have hbB : Below w1.heap.size w1 (w1.alloc (.cells #[.slice none 0 0, .slice none 0 0, .slice none 0 0, .slice none 0 0, .slice none 0 0, .slice none 0 0, .slice none 0 0, .slice none 0 0, .slice none 0 0] 29)) := (Below.refl _ w1).alloc (Nat.le_refl _) _
  have hAB := HA.out.below (B1.out.trans (hbB.mono hXB)) (Nat.le_refl _)
  have rX := heap_alloc_new w1 (.cells #[.slice none 0 0, .slice none 0 0, .slice none 0 0, .slice none 0 0, .slice none 0 0, .slice none 0 0, .slice none 0 0, .slice none 0 0, .slice none 0 0] 29)
  have A0 := hid hAB
  have BB := hid (B1.out.trans (hbB.mono hXB))
  have X0 := hid (ne_book rX A0.out)
  have H0 : Hid (Bo w.heap.size w1.heap.size _ _ 0) := ⟨_, _, _, _, _, _, Bh.new hXB rX, Nat.le_refl _, fun W hW => by cases hW⟩
  clear hbB hAB rX B1 hXB
  generalize w1.alloc (.cells #[.slice none 0 0, .slice none 0 0, .slice none 0 0, .slice none 0 0, .slice none 0 0, .slice none 0 0, .slice none 0 0, .slice none 0 0, .slice none 0 0] 29) = w2 at *
  generalize w1.heap.size = X at *
  have hB : w.heap.size ≤ w2.heap.size := BB.out.size
  refine (i2 w2 A0.out).mono ?_
  rintro r w3 ⟨⟨b, rfl⟩, b3⟩
  have H3 := hid (H0.out.below hB b3)
  clear b3 i2 H0
  cases b
  case' true =>
    have y1 := H3.out.nodes hB (by omega) cs HN a cap (by omega) (H3.out.atI A0.out X0.out)
    go_wp2_with (go_at_call 6; refine y1.mono ?_; rintro r w4 ⟨rfl, _, h4⟩; have H4 := hid h4; clear y1 h4 H3; fail)
    refine y1.mono ?_
    rintro r w4 ⟨rfl, _, h4⟩
    have H4 := hid h4
    clear y1 h4 H3
    go_wp2_with (go_at_call 7; fail)
  case' false =>
    have H4 := hid (H3.out.le (show 0 ≤ 0 + 3 by omega))
    obtain ⟨w4, hw4⟩ : ∃ w4, w3 = w4 := ⟨_, rfl⟩
    subst hw4
    clear H3
    go_wp2_with (go_at_call 7; fail)
  all_goals
    refine (r1 _ (H4.out.atI A0.out X0.out)).mono ?_
    rintro r w5 ⟨v5, hs5, rfl, o5, HH5, _, _, _, b5⟩
    obtain ⟨a5, c5, hv5, _, _⟩ := o5.shape
    subst hv5
    have A5 := OwnM.atIC o5
    have H5 := hid (H4.out.below hB b5)
    have HM5 := hid (show (ix hs5).length = hs5.length by simp [ix])
    have hl5 := HH5.le
    have y5 := H5.out.nodes hB (by omega) (ix hs5) HM5 a5 c5 (by omega) A5
    generalize hs5.length = m5 at *
    clear o5 HH5 b5 A5 H4 HM5 r1
    go_wp2_with (go_at_call 6; fail)
    refine y5.mono ?_
    rintro r w6 ⟨rfl, _, h6⟩
    have H6 := hid h6
    clear y5 h6 H5
    go_wp2_with (first
      | (go_at_call 8; refine (k1 _).mono ?_; rintro r w' ⟨rfl, h0⟩; have h0 := h0.symm; subst h0)
      | (go_at_call 7; fail))
    refine (r2 _ (H6.out.atI A0.out X0.out)).mono ?_
    rintro r w7 ⟨v7, hs7, rfl, o7, HH7, _, _, _, b7⟩
    obtain ⟨a7, c7, hv7, _, _⟩ := o7.shape
    subst hv7
    have A7 := OwnM.atIC o7
    have H7 := hid (H6.out.below hB b7)
    have HM7 := hid (show (ix hs7).length = hs7.length by simp [ix])
    have hl7 := HH7.le
    have y7 := H7.out.nodes hB (by omega) (ix hs7) HM7 a7 c7 (by omega) A7
    generalize hs7.length = m7 at *
    clear o7 HH7 b7 A7 H6 HM7 r2
    go_wp2_with (go_at_call 6; fail)
    refine y7.mono ?_
    rintro r w8 ⟨rfl, ⟨ρ8, vh8, vw8, hv8, wv8, Ws8, h8, hn8, hW8⟩, _⟩
    have y8 := still_D h8 hB hn8 hW8
    clear y7 H7 h8 hW8
    go_wp2_with (go_at_call 9; refine y8.mono ?_; rintro r we ⟨rfl, be⟩; have BE := hid be; clear be)
    go_ret
    exact ⟨rfl, BB.out.trans BE.out⟩
end Chn
end Go.Proofs.YtappjeepajjioaaDoor

namespace Go.Proofs.YtappjeepajjioaaDoor
open Go.ChangeShapes Go.WideShapes Go.ChangeAt Go.RowKit
theorem bytesS : Tryd.prog.bytesOf 9 = 16 := by kernel_rfl
set_option maxRecDepth 100000 in
/-- a slice of texts among the arguments, by its weight -/
theorem open_atF {H : Type} {enc : TypeId × Value → H} {W : World} {base : Nat} {v : Value} {d : DataW H} {p : List MemPlace}
    (hval : Value.okWide Tryd.prog W .any base 40 v) (hd : DataW.Trod enc Tryd.prog W 0 (fun _ => true) true 40 v d p) (hk : ∀ x ∈ DataW.weights Tryd.prog 40 d, x ≤ reachBytes) :
    ∃ a l cap, v = .slice a l.length cap ∧ At W a l ∧ l.length ≤ cap ∧ cap ≤ 9223372036854775807 ∧ l.length ≤ 8796093021952 := by
  obtain ⟨a0, len0, cap0, rfl⟩ := okWide_slice Tryd.underlying40 hval
  obtain ⟨fuel, hf⟩ := hd
  rcases open_strings Tryd.underlying40 Tryd.underlying9 cellsS hf with ⟨hcs, hx⟩ | ⟨a, len, cap, ss, hcs, _, hl, hm, hz, hx, hcell, hsz⟩
  · simp [Value.cells] at hcs
    obtain ⟨rfl, rfl, rfl⟩ := hcs
    exact ⟨none, [], 0, rfl, At.nil _ _, by simp, by omega, by simp⟩
  · simp [Value.cells] at hcs
    obtain ⟨rfl, rfl, rfl⟩ := hcs
    simp only [Prod.mk.injEq] at hx
    obtain ⟨rfl, _⟩ := hx
    simp only [if_true] at hz
    have hlen : ((ss.take len0).map (·.data.toList)).length = len0 := by simp; omega
    have hw : cap0 * 16 ≤ reachBytes := by
      refine hk _ ?_
      rw [DataW.weights, Tryd.underlying40]
      simp only [bytesS]
      have e : (strs (H := H) (ss.take len0)).length + (strs (H := H) (ss.drop len0)).length = cap0 := by simp [strs]; omega
      rw [e]
      exact List.mem_cons_self
    have hr : reachBytes = 140737488351232 := rfl
    refine ⟨some a, (ss.take len0).map (·.data.toList), cap0, by rw [hlen], fun j p hp => ?_, by omega, hm, by omega⟩
    rw [List.getElem?_map, Option.map_eq_some_iff] at hp
    obtain ⟨s, hs, rfl⟩ := hp
    rw [List.getElem?_take] at hs
    split at hs
    · have hj := (List.getElem?_eq_some_iff.1 hs).1
      have hc := hcell j hj
      rw [List.getD_eq_getElem?_getD, hs] at hc
      refine ⟨a, rfl, ?_, hc⟩
      have := block_lt_of_cell hc
      rwa [addr_block] at this
    · cases hs
theorem weights_head {H : Type} {P : Program} {t : TypeId} {ts : List TypeId} {d : DataW H} {r : List (DataW H)} (h : (DataW.weightsEach P (t :: ts) (d :: r)).all (· ≤ reachBytes) = true) : ∀ x ∈ DataW.weights P t d, x ≤ reachBytes := fun x hx => by
  have := List.all_eq_true.1 h x (by rw [DataW.weightsEach]; exact List.mem_append_left _ hx)
  simpa using this
theorem weights_mem {H : Type} {P : Program} {e : TypeId} {d : DataW H} {x : Nat} : ∀ {l : List (DataW H)}, d ∈ l → x ∈ DataW.weights P e d → x ∈ DataW.weightsAll P e l
  | [], h, _ => by cases h
  | f :: r, h, hx => by
    rw [DataW.weightsAll]
    rcases List.mem_cons.1 h with rfl | h
    · exact List.mem_append_left _ hx
    · exact List.mem_append_right _ (weights_mem h hx)
theorem weights_tail {H : Type} {P : Program} {t : TypeId} {ts : List TypeId} {d : DataW H} {r : List (DataW H)} (h : (DataW.weightsEach P (t :: ts) (d :: r)).all (· ≤ reachBytes) = true) : (DataW.weightsEach P ts r).all (· ≤ reachBytes) = true := by
  rw [List.all_eq_true] at h ⊢
  exact fun x hx => h x (by rw [DataW.weightsEach]; exact List.mem_append_right _ hx)
set_option maxRecDepth 100000 in
/-- a slice of texts among the arguments, by its weight, and by its texts' -/
theorem open_atG {H : Type} {enc : TypeId × Value → H} {W : World} {base : Nat} {v : Value} {d : DataW H} {p : List MemPlace}
    (hval : Value.okWide Tryd.prog W .any base 40 v) (hd : DataW.Trod enc Tryd.prog W 0 (fun _ => true) true 40 v d p) (hk : ∀ x ∈ DataW.weights Tryd.prog 40 d, x ≤ reachBytes) :
    ∃ a l cap, v = .slice a l.length cap ∧ At W a l ∧ l.length ≤ cap ∧ cap ≤ 9223372036854775807 ∧ l.length ≤ 8796093021952 ∧ ∀ q ∈ l, q.length ≤ 140737488351232 := by
  obtain ⟨a0, len0, cap0, rfl⟩ := okWide_slice Tryd.underlying40 hval
  obtain ⟨fuel, hf⟩ := hd
  rcases open_strings Tryd.underlying40 Tryd.underlying9 cellsS hf with ⟨hcs, hx⟩ | ⟨a, len, cap, ss, hcs, _, hl, hm, hz, hx, hcell, hsz⟩
  · simp [Value.cells] at hcs
    obtain ⟨rfl, rfl, rfl⟩ := hcs
    exact ⟨none, [], 0, rfl, At.nil _ _, by simp, by omega, by simp, by simp⟩
  · simp [Value.cells] at hcs
    obtain ⟨rfl, rfl, rfl⟩ := hcs
    simp only [Prod.mk.injEq] at hx
    obtain ⟨rfl, _⟩ := hx
    simp only [if_true] at hz
    have hlen : ((ss.take len0).map (·.data.toList)).length = len0 := by simp; omega
    have hr : reachBytes = 140737488351232 := rfl
    have hw : cap0 * 16 ≤ reachBytes := by
      refine hk _ ?_
      rw [DataW.weights, Tryd.underlying40]
      simp only [bytesS]
      have e : (strs (H := H) (ss.take len0)).length + (strs (H := H) (ss.drop len0)).length = cap0 := by simp [strs]; omega
      rw [e]
      exact List.mem_cons_self
    have hq : ∀ s ∈ ss.take len0, s.data.toList.length ≤ reachBytes := fun s hs => by
      refine hk _ ?_
      rw [DataW.weights, Tryd.underlying40]
      refine List.mem_cons_of_mem _ (List.mem_append_left _ (weights_mem (d := .lit (.string s.data.toList)) ?_ ?_))
      · unfold strs
        exact List.mem_map.2 ⟨s, hs, rfl⟩
      · simp [DataW.weights]
    refine ⟨some a, (ss.take len0).map (·.data.toList), cap0, by rw [hlen], fun j p hp => ?_, by omega, hm, by omega, fun q hq' => ?_⟩
    rotate_left
    · obtain ⟨s, hs, rfl⟩ := List.mem_map.1 hq'
      have := hq s hs
      omega
    rw [List.getElem?_map, Option.map_eq_some_iff] at hp
    obtain ⟨s, hs, rfl⟩ := hp
    rw [List.getElem?_take] at hs
    split at hs
    · have hj := (List.getElem?_eq_some_iff.1 hs).1
      have hc := hcell j hj
      rw [List.getD_eq_getElem?_getD, hs] at hc
      refine ⟨a, rfl, ?_, hc⟩
      have := block_lt_of_cell hc
      rwa [addr_block] at this
    · cases hs
set_option maxRecDepth 100000 in
/-- a text among the arguments, by its weight -/
theorem open_strG {H : Type} {enc : TypeId × Value → H} {W : World} {base : Nat} {v : Value} {d : DataW H} {p : List MemPlace}
    (hval : Value.okWide Tryd.prog W .any base 9 v) (hd : DataW.Trod enc Tryd.prog W 0 (fun _ => true) true 9 v d p) (hk : ∀ x ∈ DataW.weights Tryd.prog 9 d, x ≤ reachBytes) :
    ∃ s : List UInt8, v = sv s ∧ s.length ≤ 140737488351232 := by
  obtain ⟨s0, rfl, rfl, rfl, hs0⟩ := ChangeMaps.open_string Tryd.underlying9 hval hd
  have hr : reachBytes = 140737488351232 := rfl
  have := hk s0.data.toList.length (by simp [DataW.weights])
  exact ⟨s0.data.toList, sv_eta s0, by omega⟩
end Go.Proofs.YtappjeepajjioaaDoor

namespace Go.Proofs.YtappjeepajjioaaDoor
open Go.ChangeShapes Go.WideShapes Go.ChangeAt Go.RowKit
theorem bytesI : Tryd.prog.bytesOf 3 = 8 := by kernel_rfl
set_option maxRecDepth 100000 in
/-- a slice of whole numbers among the arguments, by its weight -/
theorem open_atIF {H : Type} {enc : TypeId × Value → H} {W : World} {base : Nat} {v : Value} {d : DataW H} {p : List MemPlace}
    (hval : Value.okWide Tryd.prog W .any base 22 v) (hd : DataW.Trod enc Tryd.prog W 0 (fun _ => true) true 22 v d p) (hk : ∀ x ∈ DataW.weights Tryd.prog 22 d, x ≤ reachBytes) :
    ∃ a l cap, v = .slice a l.length cap ∧ AtI W a l ∧ l.length ≤ cap ∧ cap ≤ 9223372036854775807 ∧ l.length ≤ 17592186043904 ∧ ∀ c ∈ l, -9223372036854775808 ≤ c ∧ c ≤ 9223372036854775807 := by
  obtain ⟨a0, len0, cap0, rfl⟩ := okWide_slice Tryd.underlying22 hval
  obtain ⟨fuel, hf⟩ := hd
  rcases open_ints Tryd.underlying22 Tryd.underlying3 cellsI hf with ⟨hcs, hx⟩ | ⟨a, len, cap, zs, hcs, _, hl, hm, hz, hx, hcell, hwf⟩
  · simp [Value.cells] at hcs
    obtain ⟨rfl, rfl, rfl⟩ := hcs
    exact ⟨none, [], 0, rfl, fun j p hp => by simp at hp, by simp, by omega, by simp, fun c hc => by simp at hc⟩
  · simp [Value.cells] at hcs
    obtain ⟨rfl, rfl, rfl⟩ := hcs
    simp only [Prod.mk.injEq] at hx
    obtain ⟨rfl, _⟩ := hx
    simp only [if_true] at hz
    have hlen : (zs.take len0).length = len0 := by simp; omega
    have hw : cap0 * 8 ≤ reachBytes := by
      refine hk _ ?_
      rw [DataW.weights, Tryd.underlying22]
      simp only [bytesI]
      have e : (lits (H := H) .i64 (zs.take len0)).length + (lits (H := H) .i64 (zs.drop len0)).length = cap0 := by simp [lits]; omega
      rw [e]
      exact List.mem_cons_self
    have hr : reachBytes = 140737488351232 := rfl
    refine ⟨some a, zs.take len0, cap0, by rw [hlen], fun j c hc => ?_, by omega, hm, by omega, fun c hc => wf_i64 (hwf c (List.mem_of_mem_take hc))⟩
    rw [List.getElem?_take] at hc
    split at hc
    · have hj := (List.getElem?_eq_some_iff.1 hc).1
      have hc' := hcell j hj
      rw [List.getD_eq_getElem?_getD, hc] at hc'
      refine ⟨a, rfl, ?_, hc'⟩
      have := block_lt_of_cell hc'
      rwa [addr_block] at this
    · cases hc
end Go.Proofs.YtappjeepajjioaaDoor
