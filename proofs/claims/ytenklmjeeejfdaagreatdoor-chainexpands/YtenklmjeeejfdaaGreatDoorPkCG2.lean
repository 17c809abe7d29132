import Derived.Test.YtenklmjeeejfdaaGreatDoorPkI10
import Derived.Test.YtenklmjeeejfdaaGreatDoorPkI1
import Derived.BigQuiet
import Derived.Deep.RegionHeld3
import Derived.Test.YtenklmjeeejfdaaGreatDoorPkO2
import Derived.Test.YtenklmjeeejfdaaGreatDoorPkSP24
import Derived.Lib.TrailingZeros
import Derived.Test.YtenklmjeeejfdaaGreatDoorPkSP4
import Derived.Test.YtenklmjeeejfdaaGreatDoorPkTL1
import Derived.Laws.ResultCell
namespace Go.Proofs.YtenklmjeeejfdaaGreatDoor
open Go.RowKit Go.Shelf
namespace Chn
namespace Gb
theorem Cb.skip {mk : Nat → Value} {B0 X gh gw : Nat} {F : Value → Array Value} {hv wv : List Value} {Ws : List (List Value)} {w0 w : World} {ρ : Nat → Nat} {p p' : Nat} {vl : Value} {ls : List Value} (h : Cb mk B0 X gh gw F hv wv Ws w0 ρ w p vl ls) (hp : p ≤ p') : Cb mk B0 X gh gw F hv wv Ws w0 ρ w p' vl ls :=
  { h with own := fun j W hj e => h.own j W (by omega) e }
structure Ca (mk : Nat → Value) (B0 X gh gw : Nat) (F : Value → Array Value) (hv wv : List Value) (Ws : List (List Value)) (w0 : World) (ρ : Nat → Nat) (w : World) (i k : Nat) (v : Value) (W : List Value) (vl : Value) (ls : List Value) : Prop where
  cb : Cb mk B0 X gh gw F hv wv Ws w0 ρ w (i + 1) vl ls
  ov : OwnM 1 w v W.length (List.replicate k (mk i) ++ W.drop k)
  rv : ∀ g, v.ownBlock = some g → ρ g = 3 + i
  ll : ls.length = 40 * i
theorem Ca.set {mk : Nat → Value} {B0 X gh gw : Nat} {F : Value → Array Value} {hv wv : List Value} {Ws : List (List Value)} {w0 w : World} {ρ : Nat → Nat} {i k g c : Nat} {W : List Value} {vl : Value} {ls : List Value} (h : Ca mk B0 X gh gw F hv wv Ws w0 ρ w i k (.slice (some ⟨g, 0, none⟩) W.length c) W vl ls) (hB : B0 ≤ w0.heap.size) (hk : k < W.length) :
    Ca mk B0 X gh gw F hv wv Ws w0 ρ (w.setCell ⟨g, k, none⟩ (mk i)) i (k + 1) (.slice (some ⟨g, 0, none⟩) W.length c) W vl ls ∧ (∃ y, w.cell? ⟨g, k, none⟩ = some y) ∧ w.frozen? ⟨g, k, none⟩ = false := by
  have hlen : (List.replicate k (mk i) ++ W.drop k).length = W.length := by rw [List.length_append, List.length_replicate, List.length_drop]; omega
  obtain ⟨o1, y1, f1⟩ := h.ov.set (j := k) (by omega) (mk i)
  rw [rep_set rfl hk] at o1
  have hrg := h.rv g rfl
  have hw : Wr ρ (3 + i) w (w.setCell ⟨g, k, none⟩ (mk i)) := (Wr.refl ρ (3 + i) w).setCell (fun _ => hrg) _ _
  refine ⟨⟨h.cb.step hB hw (by omega) (Nat.le_refl _) ρ (fun _ _ => rfl) (fun j _ _ hj e => by omega) (fun t v e hr => ?_), o1, h.rv, h.ll⟩, y1, f1⟩
  have := (List.getElem?_eq_some_iff.1 e).1
  rw [h.ll] at this
  omega
structure Cu (mk : Nat → Value) (B0 X gh gw : Nat) (F : Value → Array Value) (hv wv : List Value) (Ws : List (List Value)) (w0 : World) (ρ : Nat → Nat) (w : World) (i q n : Nat) (v : Value) (vl : Value) (ls : List Value) : Prop where
  cb : Cb mk B0 X gh gw F hv wv Ws w0 ρ w (i + 1) vl ls
  ov : OwnM 1 w v n (List.replicate n (mk i))
  rv : ∀ g, v.ownBlock = some g → ρ g = 3 + i
  ll : ls.length = 40 * i + q
  sn : ∀ (t : Nat) (u : Value), ls[t]? = some u → t / 40 = i → ∃ a m c, u = .slice a m c ∧ m ≤ n
theorem Ca.done {mk : Nat → Value} {B0 X gh gw : Nat} {F : Value → Array Value} {hv wv : List Value} {Ws : List (List Value)} {w0 w : World} {ρ : Nat → Nat} {i : Nat} {v : Value} {W : List Value} {vl : Value} {ls : List Value} (h : Ca mk B0 X gh gw F hv wv Ws w0 ρ w i W.length v W vl ls) : Cu mk B0 X gh gw F hv wv Ws w0 ρ w i 0 W.length v vl ls where
  cb := h.cb
  ov := by
    have := h.ov
    rw [List.drop_length, List.append_nil] at this
    exact this
  rv := h.rv
  ll := h.ll
  sn := fun t u e hr => by
    have := (List.getElem?_eq_some_iff.1 e).1
    rw [h.ll] at this
    omega
theorem Cu.push {mk : Nat → Value} {B0 X gh gw : Nat} {F : Value → Array Value} {hv wv : List Value} {Ws : List (List Value)} {w0 w w' : World} {ρ : Nat → Nat} {i q n ix : Nat} {v vl vl' : Value} {ls : List Value} (h : Cu mk B0 X gh gw F hv wv Ws w0 ρ w i q n v vl ls) (hB : B0 ≤ w0.heap.size) (hF : ∀ v v', (F v).setIfInBounds ix v' = F v') (hq : q < 40)
    (hg : Grow w w' vl vl') (ho : OwnM 1 w' vl' (ls.length + 1) (ls ++ [v])) : Cu mk B0 X gh gw F hv wv Ws w0 (rx ρ w 2) (w'.setCell ⟨X, ix, none⟩ vl') i (q + 1) n v vl' (ls ++ [v]) := by
  have hd : ls.length / 40 = i := by rw [h.ll]; omega
  have hw : Wr ρ 2 w w' := Wr.grow hg h.cb.rl
  have hset : ∀ k, k ≠ X → (w'.setCell ⟨X, ix, none⟩ vl').heap[k]? = w'.heap[k]? := fun k hk => heap_setCell_other w' ⟨X, ix, none⟩ k vl' hk
  have both : ∀ k, k < w.heap.size → ρ k ≠ 2 → ρ k ≠ 1 → (w'.setCell ⟨X, ix, none⟩ vl').heap[k]? = w.heap[k]? := fun k hk h2 h1 => (hset k (fun e => h1 (by rw [e]; exact h.cb.rX))).trans (hw.block k hk h2)
  have hs2 : w.heap.size ≤ (w'.setCell ⟨X, ix, none⟩ vl').heap.size := by simpa [World.setCell] using hw.size
  have hmk := mkV h.ov
  constructor
  case cb => exact h.cb.push hB hF hg ho (by rw [hd]; exact hmk) (fun k hk => ⟨h.ov.lt k hk, by rw [hd]; exact h.rv k hk⟩)
  case ov => exact h.ov.kept hs2 (fun g hg' => both g (h.ov.lt g hg') (by rw [h.rv g hg']; omega) (by rw [h.rv g hg']; omega))
  case rv => exact fun g hg' => by rw [rx_old (h.ov.lt g hg')]; exact h.rv g hg'
  case ll => rw [List.length_append, h.ll]; rfl
  case sn =>
    intro t u e hr
    rw [List.getElem?_append] at e
    split at e
    · exact h.sn t u e hr
    · obtain ⟨a, c, e1, _, _⟩ := h.ov.shape
      have ht := (List.getElem?_eq_some_iff.1 e).1
      simp at ht
      rw [show t - ls.length = 0 by omega] at e
      obtain rfl : v = u := Option.some.inj e
      exact ⟨a, n, c, e1, Nat.le_refl _⟩
theorem Cu.grow {mk : Nat → Value} {B0 X gh gw : Nat} {F : Value → Array Value} {hv wv : List Value} {Ws : List (List Value)} {w0 w w' : World} {ρ : Nat → Nat} {i q n : Nat} {v v' vl : Value} {ls : List Value} (h : Cu mk B0 X gh gw F hv wv Ws w0 ρ w i q n v vl ls) (hB : B0 ≤ w0.heap.size)
    (hg : Grow w w' v v') (ho : OwnM 1 w' v' (n + 1) (List.replicate (n + 1) (mk i))) : Cu mk B0 X gh gw F hv wv Ws w0 (rx ρ w (3 + i)) w' i q (n + 1) v' vl ls := by
  have hw : Wr ρ (3 + i) w w' := Wr.grow hg h.rv
  constructor
  case cb =>
    refine h.cb.step hB hw (by omega) (Nat.le_refl _) _ (fun _ hk => rx_old hk) (fun j _ _ hj e => by omega) (fun t u e hr hM => ?_)
    obtain ⟨a0, m0, c0, e0, hm0⟩ := h.sn t u e (by omega)
    obtain ⟨a, m, c, e1, hm, hc⟩ := hM
    rw [e0] at e1
    injection e1 with e1 e2 e3
    subst e1 e2 e3
    refine ⟨a0, m0, c0, e0, hm, fun j hj => ?_⟩
    obtain ⟨g, ea, h3, h4⟩ := hc j hj
    have keep : w'.heap[g]? = w.heap[g]? → ∃ g', a0 = some ⟨g', 0, none⟩ ∧ g' < w'.heap.size ∧ w'.cell? ⟨g', j, none⟩ = some (mk (t / 40)) := fun e' =>
      ⟨g, ea, Nat.lt_of_lt_of_le h3 hg.size, (World.cell?_of_block (a := ⟨g, j, none⟩) e').trans h4⟩
    by_cases hv : v.ownBlock = some g
    · rcases hg.alt with e4 | ⟨_, e4⟩
      · obtain ⟨g1, c1, f1, f2, f3⟩ := ho.cell (rep_at (mk i) (n + 1) j (by omega))
        rw [hv] at e4
        have hg1 : g1 = g := by rw [f1] at e4; injection e4
        subst hg1
        have ht : t / 40 = i := by omega
        rw [ht]
        exact ⟨_, ea, f3, f2⟩
      · exact keep (e4 g h3)
    · exact keep (hg.old g h3 hv)
  case ov => exact ho
  case rv => exact Wr.own hg h.rv h.ov.lt
  case ll => exact h.ll
  case sn =>
    intro t u e hr
    obtain ⟨a, m, c, e1, e2⟩ := h.sn t u e hr
    exact ⟨a, m, c, e1, by omega⟩
end Gb
end Chn
end Go.Proofs.YtenklmjeeejfdaaGreatDoor

namespace Go.Proofs.YtenklmjeeejfdaaGreatDoor
open Go.RowKit Go.Shelf
namespace Chn
theorem nd356 : ndE [3, 5, 6] = 0 ∧ ndL [3, 5, 6] = [(2, 3), (3, 4), (0, 2), (4, 5), (5, 6)] := by decide +kernel
theorem nd4 : ndE [4] = 0 ∧ ndL [4] = [] := by decide +kernel
theorem nd22 : ndE [2, 2] = 130 ∧ ndL [2, 2] = [] := by decide +kernel
theorem hds4 : Hds [4] := by
  obtain ⟨hs, h1, h2⟩ := mayB_hds (cs := [4]) (by decide +kernel)
  have : hs = [4] := by rw [← ix_toN hs, ← h1]; rfl
  rw [← this]; exact h2
theorem ex12 : exE [1, 2] [] = 131 := by decide +kernel
theorem ck_x : ckO [1, 2] [Sha.sha [120]] [Sha.sha [120], Sha.sha [120]] = 132 := by decide +kernel
theorem at_one (w : World) (x : List UInt8) : At (w.alloc (.cells #[.string ⟨x.toArray⟩] 9)) (some ⟨w.heap.size, 0, none⟩) [x] := fun j p hp => by
  have h := heap_alloc_new w (.cells #[.string ⟨x.toArray⟩] 9)
  refine ⟨_, rfl, lt_of_heap h, ?_⟩
  rw [Addr.add_mid, Nat.zero_add, cell_of_row _ _ _ _ _ _ h]
  match j, hp with
  | 0, hp => simp at hp; subst hp; rfl
  | j + 1, hp => simp at hp
theorem at_twoC (w : World) (x z : List UInt8) : At (w.alloc (.cells #[.string ⟨x.toArray⟩, .string ⟨z.toArray⟩] 9)) (some ⟨w.heap.size, 0, none⟩) [x, z] := fun j p hp => by
  have h := heap_alloc_new w (.cells #[.string ⟨x.toArray⟩, .string ⟨z.toArray⟩] 9)
  refine ⟨_, rfl, lt_of_heap h, ?_⟩
  rw [Addr.add_mid, Nat.zero_add, cell_of_row _ _ _ _ _ _ h]
  match j, hp with
  | 0, hp => simp at hp; subst hp; rfl
  | 1, hp => simp at hp; subst hp; rfl
  | j + 2, hp => simp at hp
abbrev five : List (Int × Int) := [(2, 3), (3, 4), (0, 2), (4, 5), (5, 6)]
abbrev fiveO : Obj := .cells #[.int .i64 2, .int .i64 3, .int .i64 3, .int .i64 4, .int .i64 0, .int .i64 2, .int .i64 4, .int .i64 5, .int .i64 5, .int .i64 6] 56
theorem five_at (w : World) : AtP (w.alloc fiveO) (some ⟨w.heap.size, 0, none⟩) five := AtP.lit w five 56
theorem own_five {w : World} {a : Option Addr} {k : Nat} (h : OwnM 2 w (.slice a 5 k) 5 (prs [(2, 3), (3, 4), (0, 2), (4, 5), (5, 6)])) : AtP w a five := OwnP.atP (l := [(2, 3), (3, 4), (0, 2), (4, 5), (5, 6)]) h
theorem five_yes (w : World) (a : Option Addr) (k1 : Nat) (h : AtP (w.alloc fiveO) a five) : Calls Tryz.prog 18 #[.slice a 5 k1, .slice (some ⟨w.heap.size, 0, none⟩) 5 5] (w.alloc fiveO) fun e w' => e = .returned (.bool true) ∧ Below w.heap.size w w' := by
  have b0 := (Below.refl w.heap.size w).alloc (Nat.le_refl _) fiveO
  refine (spans_yes five a (some ⟨w.heap.size, 0, none⟩) k1 5 _ (by decide) h (five_at w)).mono ?_
  rintro r w' ⟨rfl, b1⟩
  exact ⟨rfl, b0.trans (b1.mono b0.size)⟩
set_option maxRecDepth 100000 in
set_option maxHeartbeats 2000000 in
theorem known13_any (w : World) (T : Tabs w) : Calls Tryz.prog 4 #[] w fun e w' => e = .returned (.bool true) ∧ Below w.heap.size w w' := by
  have i1 := fun w' => nodes13_any [3, 5, 6] 3 rfl (some ⟨w'.heap.size, 0, none⟩) 3 _ (AtI.lit w' [3, 5, 6] 3) (by omega)
  have i2 := fun w' => nodes13_any [4] 1 rfl (some ⟨w'.heap.size, 0, none⟩) 1 _ (AtI.lit w' [4] 3) (by omega)
  have i3 := fun w' => nodes13_any [2, 2] 2 rfl (some ⟨w'.heap.size, 0, none⟩) 2 _ (AtI.lit w' [2, 2] 3) (by omega)
  rw [nd356.1, nd356.2] at i1
  rw [nd4.1, nd4.2] at i2
  rw [nd22.1, nd22.2] at i3
  have b9 : ∀ (w' : World) (o : Obj), Below w.heap.size w w' → Below w.heap.size w (w'.alloc o) := fun w' o h => h.alloc h.size _
  have i4 := fun w' (bb : Below w.heap.size w w') => expandC_ok [4] hds4 [] 1 0 rfl rfl (by unfold Hid; decide +kernel) (some ⟨w'.heap.size, 0, none⟩) none 1 0 _ (AtI.lit w' [4] 3) (At.nil _ _) rfl (T.below (b9 w' _ bb) T.lt)
  have e4 : exL [4] [] = [] := rfl
  rw [e4] at i4
  have i5 := fun w' => expandC_bad [1, 2] [] 2 0 rfl rfl (some ⟨w'.heap.size, 0, none⟩) none 2 0 _ (AtI.lit w' [1, 2] 3) (At.nil _ _) (by omega) (by omega) (by rw [ex12]; decide)
  rw [ex12] at i5
  have i6 := fun w' v (bb : OwnP w' v [(2, 3), (3, 4), (0, 2), (4, 5), (5, 6)]) => (show ∃ a c, v = .slice a 5 c ∧ AtP w' a [(2, 3), (3, 4), (0, 2), (4, 5), (5, 6)] by
    obtain ⟨a, c, rfl, _, _⟩ := bb.shape
    exact ⟨a, c, rfl, bb.atP⟩)
  have i7 := fun w' => hash8_any ⟨#[120]⟩ (by decide) w'
  obtain ⟨X, hX⟩ : ∃ X, Sha.sha (⟨#[120]⟩ : ByteArray).data.toList = X := ⟨_, rfl⟩
  have hck : ckO [1, 2] [X] [X, X] = 132 := by rw [← hX]; exact ck_x
  rw [hX] at i7
  have i8 := fun w' (bb : Below w.heap.size w w') => checkC_any [1, 2] [X] [X, X] 2 1 2 rfl rfl rfl (some ⟨w'.heap.size, 0, none⟩) (some ⟨w'.heap.size + 1, 0, none⟩) (some ⟨w'.heap.size + 1 + 1, 0, none⟩) 2 1 2 (((w'.alloc (.cells #[.int .i64 1, .int .i64 2] 3)).alloc (.cells #[.string ⟨X.toArray⟩] 9)).alloc (.cells #[.string ⟨X.toArray⟩, .string ⟨X.toArray⟩] 9))
    (((AtI.lit w' [1, 2] 3).below ((Below.refl _ _).alloc (Nat.le_refl _) _) (Nat.le_refl _)).below ((Below.refl _ _).alloc (Nat.le_refl _) _) (Nat.le_refl _))
    (by have h := at_one (w'.alloc (.cells #[.int .i64 1, .int .i64 2] 3)) X; rw [size_alloc] at h; exact h.below ((Below.refl _ _).alloc (Nat.le_refl _) _) (Nat.le_refl _))
    (by have h := at_twoC ((w'.alloc (.cells #[.int .i64 1, .int .i64 2] 3)).alloc (.cells #[.string ⟨X.toArray⟩] 9)) X X; rw [size_alloc, size_alloc] at h; exact h)
    (T.below (b9 _ _ (b9 _ _ (b9 w' _ bb))) T.lt) (by omega) (by omega) (by omega)
  rw [hck] at i8
  rw [show sv X = .string ⟨X.toArray⟩ from rfl] at i7
  generalize (⟨X.toArray⟩ : ByteArray) = XB at *
  simp only [List.map_cons, List.map_nil] at i1 i2 i3 i4 i5
  have HB9 := hid b9
  clear hX hck b9 e4
  go_enter Tryz.func4, Tryz.ntmps4
  go_wp2_with (first
    | (go_at_call 16; (with_reducible refine (i1 _).mono ?_); rintro r w1 ⟨b1, v1, rfl, O1, _⟩; have c1' := HB9.out w (.cells #[.int .i64 3, .int .i64 5, .int .i64 6] 3) (Below.refl _ _); have B1 := hid (c1'.trans (b1.mono c1'.size)); have HO1 := hid O1; obtain ⟨a1, k1, rfl, _, _⟩ := (show OwnM 2 w1 v1 5 (prs [(2, 3), (3, 4), (0, 2), (4, 5), (5, 6)]) from O1).shape; clear b1 O1 c1')
    | (go_at_call 16; (with_reducible refine (i2 _).mono ?_); rintro r w2 ⟨b2, v2, rfl, O2, _⟩; have c2' := (Below.refl w1.heap.size w1).alloc (Nat.le_refl _) (.cells #[.int .i64 4] 3); have d2 := c2'.trans (b2.mono c2'.size); have B2 := hid (B1.out.trans (d2.mono B1.out.size)); have HO2 := hid (HO1.out.below d2); obtain ⟨a2, k2, rfl, _, _⟩ := (show OwnM 2 w2 v2 0 (prs []) from O2).shape; clear b2 O2 c2' d2)
    | (go_at_call 16; (with_reducible refine (i3 _).mono ?_); rintro r w3 ⟨b3, v3, rfl, O3, _⟩; have c3' := (Below.refl w2.heap.size w2).alloc (Nat.le_refl _) (.cells #[.int .i64 2, .int .i64 2] 3); have d3 := c3'.trans (b3.mono c3'.size); have B3 := hid (B2.out.trans (d3.mono B2.out.size)); have HO3 := hid (HO2.out.below d3); obtain ⟨a3, k3, rfl, _, _⟩ := (show OwnM 2 w3 v3 0 (prs []) from O3).shape; clear b3 O3 c3' d3)
    | (go_at_call 17; (with_reducible refine (i4 _ B3.out).mono ?_); rintro r w4 ⟨G, gs, rfl, _, _, _, _, b4⟩; have c4' := (Below.refl w3.heap.size w3).alloc (Nat.le_refl _) (.cells #[.int .i64 4] 3); have d4 := c4'.trans (b4.mono c4'.size); have B4 := hid (B3.out.trans (d4.mono B3.out.size)); have HO4 := hid (HO3.out.below d4); clear b4 c4' d4)
    | (go_at_call 17; (with_reducible refine (i5 _).mono ?_); rintro r w5 ⟨rfl, b5⟩; have c5' := (Below.refl w4.heap.size w4).alloc (Nat.le_refl _) (.cells #[.int .i64 1, .int .i64 2] 3); have d5 := c5'.trans (b5.mono c5'.size); have B5 := hid (B4.out.trans (d5.mono B4.out.size)); have HO5 := hid (HO4.out.below d5); clear b5 c5' d5)
    | (go_at_call 18; (refine (five_yes w5 a1 k1 (own_five (HO5.out.below ((Below.refl w5.heap.size w5).alloc (Nat.le_refl _) fiveO)))).mono ?_); rintro r w6 ⟨rfl, b6⟩; have B6 := hid (B5.out.trans (b6.mono B5.out.size)); clear b6)
    | (go_at_call 14; refine (i7 _).mono ?_; rintro r w7 ⟨rfl, b7⟩; have B7 := hid (B6.out.trans (b7.mono B6.out.size)); clear b7)
    | (go_at_call 19; refine (i8 _ B7.out).mono ?_; rintro r w8 ⟨rfl, b8⟩; have c8' := HB9.out _ (.cells #[.string XB, .string XB] 9) (HB9.out _ (.cells #[.string XB] 9) (HB9.out _ (.cells #[.int .i64 1, .int .i64 2] 3) B7.out)); have B8 := hid (c8'.trans (b8.mono c8'.size)); clear b8 c8'))
  go_ret
  exact ⟨rfl, B8.out⟩
end Chn
end Go.Proofs.YtenklmjeeejfdaaGreatDoor

namespace Go.Proofs.YtenklmjeeejfdaaGreatDoor
open Go.RowKit
abbrev rng (b e : Int) (v : Value) : Value := .agg #[.int .i64 b, .int .i64 e, v]
end Go.Proofs.YtenklmjeeejfdaaGreatDoor

namespace Go.Proofs.YtenklmjeeejfdaaGreatDoor
open Go.RowKit
structure Nl (w : World) (q : Nat) (C : Array Value) (ty : TypeId) (v : Value) (H : List (List UInt8)) : Prop where
  row : w.heap[q]? = some (.cells C ty (0, 0))
  at0 : C[0]? = some v
  own : Own w 0 v (svs H)
  ne : v.ownBlock ≠ some q
end Go.Proofs.YtenklmjeeejfdaaGreatDoor

namespace Go.Proofs.YtenklmjeeejfdaaGreatDoor
open Go.RowKit
structure Mov (F : Nat → Prop) (w w' : World) (F' : Nat → Prop) : Prop where
  keep : Keep F w w'
  new : ∀ k, F' k → F k ∨ w.heap.size ≤ k
end Go.Proofs.YtenklmjeeejfdaaGreatDoor

namespace Go.Proofs.YtenklmjeeejfdaaGreatDoor
open Go.RowKit
namespace Cut
open Tree
end Cut
theorem Mov.below {F F' : Nat → Prop} {w w' : World} {B : Nat} (h : Mov F w w' F') (hB : B ≤ w.heap.size) (hF : ∀ k, F k → B ≤ k) : Below B w w' ∧ ∀ k, F' k → B ≤ k := by
  refine ⟨⟨h.keep.os, h.keep.tape, h.keep.output, h.keep.size, fun k hk => h.keep.block k (by omega) fun e => ?_⟩, fun k hk => ?_⟩
  · have := hF k e; omega
  · rcases h.new k hk with e | e
    · exact hF k e
    · omega
end Go.Proofs.YtenklmjeeejfdaaGreatDoor

namespace Go.Proofs.YtenklmjeeejfdaaGreatDoor
open Go.RowKit
theorem Mp.keys {w : World} {b : Nat} {es : List ((Int × Int) × Value)} (h : Mp w b es) : es.Pairwise (fun x y => x.1 ≠ y.1) := by
  obtain ⟨_, _, _, _, _, _, h, _⟩ := h
  exact h
def Fb (q b : Nat) (es : List ((Int × Int) × Value)) (k : Nat) : Prop := k = q ∨ k = b ∨ ∃ p v, (p, v) ∈ es ∧ v.ownBlock = some k
structure Tr (w : World) (q b h s : Nat) (es : List ((Int × Int) × Value)) (R : Int × Int → List (List UInt8)) : Prop where
  row : w.heap[q]? = some (.cells #[.int .i64 (h : Int), .int .i64 (s : Int), .map (some b)] 93 (0, 0))
  mp : Mp w b es
  qb : q ≠ b
  el : ∀ p v, (p, v) ∈ es → Own w 0 v (svs (R p)) ∧ ∀ k, v.ownBlock = some k → k ≠ q ∧ k ≠ b
  no : ∀ p, ¬ has es p → R p = []
  apart : ∀ p v p' v' k, (p, v) ∈ es → (p', v') ∈ es → p ≠ p' → v.ownBlock = some k → v'.ownBlock ≠ some k
theorem Own.ltS {w : World} {base : Nat} {v : Value} {cs : List Value} (h : Own w base v cs) : ∀ k, v.ownBlock = some k → k < w.heap.size := by
  rcases h with ⟨rfl, _⟩ | ⟨g, cap, rfl, _, _, _, _, _, h6⟩
  · intro k hk; cases hk
  · intro k hk; cases hk; exact h6
theorem Tr.lt {w : World} {q b h s : Nat} {es : List ((Int × Int) × Value)} {R : Int × Int → List (List UInt8)} (t : Tr w q b h s es R) : ∀ k, Fb q b es k → k < w.heap.size := fun k hk => by
  rcases hk with rfl | rfl | ⟨p, v, hm, hk⟩
  · exact (Array.getElem?_eq_some_iff.1 t.row).1
  · exact t.mp.lt
  · exact (t.el p v hm).1.ltS k hk
theorem Tr.keep {w w' : World} {q b h s : Nat} {es : List ((Int × Int) × Value)} {R : Int × Int → List (List UInt8)} {S : Nat → Prop} (t : Tr w q b h s es R) (hk : Keep S w w') (hd : ∀ k, Fb q b es k → ¬ S k) : Tr w' q b h s es R := by
  have e : ∀ k, Fb q b es k → w'.heap[k]? = w.heap[k]? := fun k hf => hk.block k (t.lt k hf) (hd k hf)
  refine ⟨(e q (.inl rfl)).trans t.row, t.mp.heap (e b (.inr (.inl rfl))), t.qb, fun p v hm => ⟨?_, (t.el p v hm).2⟩, t.no, t.apart⟩
  exact (t.el p v hm).1.kept hk.size fun g hg => e g (.inr (.inr ⟨p, v, hm, hg⟩))
theorem Tr.below {w w' : World} {q b h s : Nat} {es : List ((Int × Int) × Value)} {R : Int × Int → List (List UInt8)} (t : Tr w q b h s es R) (hb : Below w.heap.size w w') : Tr w' q b h s es R :=
  t.keep (S := fun k => w.heap.size ≤ k) ⟨hb.os, hb.tape, hb.output, hb.size, fun k hk _ => hb.block k hk⟩ (fun k hk e => by have := t.lt k hk; omega)
theorem Tr.c0 {w : World} {q b h s : Nat} {es : List ((Int × Int) × Value)} {R : Int × Int → List (List UInt8)} (t : Tr w q b h s es R) : w.cell? ⟨q, 0, none⟩ = some (.int .i64 (h : Int)) := by rw [cell_of_row _ _ _ _ _ _ t.row]; rfl
theorem Tr.c1 {w : World} {q b h s : Nat} {es : List ((Int × Int) × Value)} {R : Int × Int → List (List UInt8)} (t : Tr w q b h s es R) : w.cell? ⟨q, 1, none⟩ = some (.int .i64 (s : Int)) := by rw [cell_of_row _ _ _ _ _ _ t.row]; rfl
theorem Tr.c2 {w : World} {q b h s : Nat} {es : List ((Int × Int) × Value)} {R : Int × Int → List (List UInt8)} (t : Tr w q b h s es R) : w.cell? ⟨q, 2, none⟩ = some (.map (some b)) := by rw [cell_of_row _ _ _ _ _ _ t.row]; rfl
theorem Tr.f1 {w : World} {q b h s : Nat} {es : List ((Int × Int) × Value)} {R : Int × Int → List (List UInt8)} (t : Tr w q b h s es R) : w.frozen? ⟨q, 1, none⟩ = false := frozen_of_row _ _ _ _ _ t.row
theorem Tr.at {w : World} {q b h s : Nat} {es : List ((Int × Int) × Value)} {R : Int × Int → List (List UInt8)} (t : Tr w q b h s es R) (p : Int × Int) : Own w 0 (look es p) (svs (R p)) ∧ ∀ k, (look es p).ownBlock = some k → Fb q b es k ∧ k ≠ q ∧ k ≠ b := by
  by_cases hp : has es p
  · obtain ⟨v, hv⟩ := hp
    rw [look_mem t.mp.keys hv]
    exact ⟨(t.el p v hv).1, fun k hk => ⟨.inr (.inr ⟨p, v, hv, hk⟩), (t.el p v hv).2 k hk⟩⟩
  · rw [look_none hp, t.no p hp]
    exact ⟨Own.nil _ _, fun k hk => (by cases hk)⟩
theorem tOrNone_any (q : Nat) (w : World) : Calls Tryz.prog 78 #[.pointer (some ⟨q, 0, none⟩)] w fun r w' => r = .returned (.pointer (some ⟨q, 0, none⟩)) ∧ w' = w := by
  go_enter Tryz.func78, Tryz.ntmps78
  go_wp2
  go_ret
  exact ⟨rfl, rfl⟩
theorem tHeight_any {w : World} {q b h s : Nat} {es : List ((Int × Int) × Value)} {R : Int × Int → List (List UInt8)} (t : Tr w q b h s es R) : Calls Tryz.prog 53 #[.pointer (some ⟨q, 0, none⟩)] w fun r w' => r = .returned (.int .i64 (h : Int)) ∧ w' = w := by
  have h0 := t.c0
  go_enter Tryz.func53, Tryz.ntmps53
  go_wp2_with (go_at_call 78; refine (tOrNone_any q w).mono ?_; rintro e w' ⟨rfl, rfl⟩)
  go_ret
  exact ⟨rfl, rfl⟩
end Go.Proofs.YtenklmjeeejfdaaGreatDoor

namespace Go.Proofs.YtenklmjeeejfdaaGreatDoor
open Go.RowKit
theorem results_row_tmp {P : Program} {fn : Func} {p u : Tmp} {ty : TypeId} (h : fn.results = #[.cell p ty, .tmp u]) (tmps : Array Value) (w : World) (g : Nat) (t : TypeId) (cs : Array Value) (fr : Nat × Nat) (d : TypeDesc)
    (hp : tmps.getD p undef = .pointer (some ⟨g, 0, none⟩)) (hg : w.heap[g]? = some (.cells cs t fr))
    (hu : P.underlying ty = some d) (hd : (match d with | .struct _ | .array _ _ => true | _ => false) = true) (hi : (P.info? ty).map (·.size) = some cs.size) :
    (results fn tmps).run P w = .ok (.tuple #[.agg cs, tmps.getD u undef]) w := by
  rw [results_cell_tmp h, hp]
  simp [asAddr, run_loadVar_row w g t ty cs fr d hg hu hd hi, Result.andThen]
abbrev rng0 : Value := .agg #[.int .i64 0, .int .i64 0, .slice none 0 0]
end Go.Proofs.YtenklmjeeejfdaaGreatDoor

namespace Go.Proofs.YtenklmjeeejfdaaGreatDoor
open Go.RowKit
theorem sizePl : (Tryz.prog.info? 142).map (·.size) = some 2 := by kernel_rfl
theorem low_i64 (i h P : Nat) (hi : i < 9223372036854775808) (hh : h ≤ 62) (hP : P = 2 ^ h) : bits .and .i64 (i : Int) ((P : Int) - 1) = ((i % P : Nat) : Int) := by
  have hp : 0 < P := by rw [hP]; exact Nat.two_pow_pos h
  have hp2 : P ≤ 4611686018427387904 := by rw [hP]; exact Nat.pow_le_pow_right (n := 2) (by omega) hh
  have h1 : (BitVec.ofInt 64 (i : Int)).toNat = i := by
    rw [BitVec.ofInt_natCast, BitVec.toNat_ofNat]; exact Nat.mod_eq_of_lt (by omega)
  have h2 : (BitVec.ofInt 64 ((P : Int) - 1)).toNat = P - 1 := by
    rw [show (P : Int) - 1 = ((P - 1 : Nat) : Int) by omega, BitVec.ofInt_natCast, BitVec.toNat_ofNat]; exact Nat.mod_eq_of_lt (by omega)
  show IntKind.i64.wrap ((BitVec.ofInt 64 (i : Int) &&& BitVec.ofInt 64 ((P : Int) - 1)).toNat : Int) = _
  have h3 : i % P < P := Nat.mod_lt _ hp
  rw [BitVec.toNat_and, h1, h2, hP, Nat.and_two_pow_sub_one_eq_mod, ← hP]
  exact wrap_small _ (by omega) (by omega)
def S3 (g q : Nat) (x y z : Value) (w : World) : Prop := w.cell? ⟨g, 0, none⟩ = some x ∧ w.cell? ⟨g, 1, none⟩ = some y ∧ w.cell? ⟨q, 0, none⟩ = some z
set_option maxRecDepth 100000 in
set_option maxHeartbeats 2000000 in
theorem placeOf_any {w : World} {q b h s : Nat} {es : List ((Int × Int) × Value)} {R : Int × Int → List (List UInt8)} (t : Tr w q b h s es R) (hh : h ≤ 8) (l i : Nat) (hi : i < 4611686018427387904) :
    Calls Tryz.prog 98 #[.pointer (some ⟨q, 0, none⟩), .agg #[.int .i64 (l : Int), .int .i64 (i : Int)]] w fun r w' => r = .returned (.tuple #[kv ((l : Int), ((i / 2 ^ h : Nat) : Int)), .int .i64 ((i % 2 ^ h : Nat) : Int)]) ∧ Below w.heap.size w w' := by
  have hh0 : (0 : Int) ≤ (h : Int) := by omega
  have hh1 : (h : Int) ≤ 64 := by omega
  obtain ⟨P, hP⟩ : ∃ P, P = 2 ^ h := ⟨_, rfl⟩
  have hp : 0 < P := by rw [hP]; exact Nat.two_pow_pos h
  have hp2 : P ≤ 256 := by rw [hP]; exact Nat.pow_le_pow_right (n := 2) (by omega) hh
  have s4 := low_i64 i h P (by omega) (by omega) hP
  have s0 : (2 : Int) ^ h = (P : Int) := by rw [hP]; simp
  have s1 : (i : Int) / (P : Int) = ((i / P : Nat) : Int) := by simp
  have s2 : IntKind.i64.wrap (P : Int) = (P : Int) := wrap_small _ (by omega) (by omega)
  have s3 : IntKind.i64.wrap ((P : Int) - 1) = (P : Int) - 1 := wrap_small _ (by omega) (by omega)
  rw [← hP]
  clear hP
  obtain ⟨i1, hi1⟩ : ∃ i1 : Nat, i / P = i1 := ⟨_, rfl⟩
  obtain ⟨i2, hi2⟩ : ∃ i2 : Nat, i % P = i2 := ⟨_, rfl⟩
  rw [hi1] at s1 ⊢
  rw [hi2] at s4 ⊢
  obtain ⟨w0, hw0⟩ : ∃ w0, (w.alloc (.cells #[Value.int .i64 (l : Int), .int .i64 (i : Int)] 121)).alloc (.cells #[Value.int .i64 0, .int .i64 0] 142) = w0 := ⟨_, rfl⟩
  have z1 := size_alloc w (.cells #[Value.int .i64 (l : Int), .int .i64 (i : Int)] 121)
  have r1 := heap_alloc_new w (.cells #[Value.int .i64 (l : Int), .int .i64 (i : Int)] 121)
  have b1 := (Below.refl w.heap.size w).alloc (Nat.le_refl _) (.cells #[Value.int .i64 (l : Int), .int .i64 (i : Int)] 121)
  have b2 := (Below.refl (w.heap.size + 1) (w.alloc (.cells #[Value.int .i64 (l : Int), .int .i64 (i : Int)] 121))).alloc (by omega) (.cells #[Value.int .i64 0, .int .i64 0] 142)
  have r2 := heap_alloc_at (w.alloc (.cells #[Value.int .i64 (l : Int), .int .i64 (i : Int)] 121)) (.cells #[Value.int .i64 0, .int .i64 0] 142) (w.heap.size + 1) z1
  have r1' := (b2.block w.heap.size (by omega)).trans r1
  have b3 := b1.trans (b2.mono (show w.heap.size ≤ w.heap.size + 1 by omega))
  rw [hw0] at r1' r2 b3
  have hq : q < w.heap.size := t.lt q (.inl rfl)
  have S0 : S3 w.heap.size q (.int .i64 (l : Int)) (.int .i64 (i : Int)) (.int .i64 (h : Int)) w0 := ⟨by rw [cell_of_row _ _ _ _ _ _ r1']; rfl, by rw [cell_of_row _ _ _ _ _ _ r1']; rfl, (b3.cell (p := ⟨q, 0, none⟩) hq).trans t.c0⟩
  have d0 : w0.drew.cell? ⟨w.heap.size + 1, 0, none⟩ = some (.int .i64 0) := by rw [show w0.drew.cell? ⟨w.heap.size + 1, 0, none⟩ = w0.cell? ⟨w.heap.size + 1, 0, none⟩ from rfl, cell_of_row _ _ _ _ _ _ r2]; rfl
  have d1 : w0.drew.cell? ⟨w.heap.size + 1, 1, none⟩ = some (.int .i64 0) := by rw [show w0.drew.cell? ⟨w.heap.size + 1, 1, none⟩ = w0.cell? ⟨w.heap.size + 1, 1, none⟩ from rfl, cell_of_row _ _ _ _ _ _ r2]; rfl
  have f0 : w0.drew.frozen? ⟨w.heap.size + 1, 0, none⟩ = false := frozen_of_row w0 _ _ _ _ r2
  have f1 : w0.drew.frozen? ⟨w.heap.size + 1, 1, none⟩ = false := frozen_of_row w0 _ _ _ _ r2
  have d0' : w0.cell? ⟨w.heap.size + 1, 0, none⟩ = some (.int .i64 0) := d0
  have d1' : w0.cell? ⟨w.heap.size + 1, 1, none⟩ = some (.int .i64 0) := d1
  have f0' : w0.frozen? ⟨w.heap.size + 1, 0, none⟩ = false := f0
  have f1' : w0.frozen? ⟨w.heap.size + 1, 1, none⟩ = false := f1
  have R2 := hid r2
  have B3 := hid b3
  obtain ⟨N, hN⟩ : ∃ N, w.heap.size = N := ⟨_, rfl⟩
  rw [hN] at S0 d0 d1 f0 f1 d0' d1' f0' f1' R2 B3 hq
  obtain ⟨w9, hw9⟩ : ∃ w9, (w0.setCell ⟨N + 1, 0, none⟩ (.int .i64 (l : Int))).setCell ⟨N + 1, 1, none⟩ (.int .i64 (i1 : Int)) = w9 := ⟨_, rfl⟩
  have b9 : Below (N + 1) w0 w9 := by
    rw [← hw9]
    exact ((Below.refl (N + 1) w0).setCell (p := ⟨N + 1, 0, none⟩) (Nat.le_refl _) _).setCell (p := ⟨N + 1, 1, none⟩) (Nat.le_refl _) _
  have S9 : S3 N q (.int .i64 (l : Int)) (.int .i64 (i : Int)) (.int .i64 (h : Int)) w9 := ⟨(b9.cell (p := ⟨N, 0, none⟩) (by simp)).trans S0.1, (b9.cell (p := ⟨N, 1, none⟩) (by simp)).trans S0.2.1, (b9.cell (p := ⟨q, 0, none⟩) (by simp; omega)).trans S0.2.2⟩
  have R9 : Hid (w9.heap[N + 1]? = some (.cells #[.int .i64 (l : Int), .int .i64 (i1 : Int)] 142 (0, 0))) := by
    have h1 := heap_setCell_same w0 (N + 1) 0 _ _ (.int .i64 (l : Int)) R2.out
    have h2 := heap_setCell_same _ (N + 1) 1 _ _ (.int .i64 (i1 : Int)) h1
    rw [hw9] at h2
    exact h2
  have B9 : Hid (Below N w w9) := hid (B3.out.trans (b9.mono (by omega)))
  clear r1' r1 r2 b1 b2 b3 z1 hi1 hi2 hp hp2 t
  go_enter Tryz.func98, Tryz.ntmps98
  go_wp2
  clear hw0
  go_region_held3 (fun w' => w'.cell? ⟨N, 0, none⟩ = some (.int .i64 (l : Int)) ∧ w'.cell? ⟨N, 1, none⟩ = some (.int .i64 (i : Int)) ∧ w'.cell? ⟨q, 0, none⟩ = some (.int .i64 (h : Int))) (first | exact S0 | exact S9 | (rw [hw9]; exact S9)) (fail)
  all_goals (go_wp2; refine bodyPost_ret (results_row_tmp rfl _ _ (N + 1) 142 _ (0, 0) _ rfl R9.out Tryz.underlying142 rfl sizePl) rfl ?_; exact ⟨rfl, by rw [hN]; exact B9.out.drew⟩)
end Go.Proofs.YtenklmjeeejfdaaGreatDoor

namespace Go.Proofs.YtenklmjeeejfdaaGreatDoor
open Go.RowKit
set_option maxRecDepth 100000 in
set_option maxHeartbeats 2000000 in
theorem thash_any {w : World} {q b h s : Nat} {es : List ((Int × Int) × Value)} {R : Int × Int → List (List UInt8)} (t : Tr w q b h s es R) (hh : h ≤ 8) (l i : Nat) (hl : l < 4611686018427387904) (hi : i < 4611686018427387904) {x : List UInt8} (hx : (R ((l : Int), ((i / 2 ^ h : Nat) : Int)))[i % 2 ^ h]? = some x) :
    Calls Tryz.prog 81 #[.pointer (some ⟨q, 0, none⟩), .agg #[.int .i64 (l : Int), .int .i64 (i : Int)]] w fun r w' => r = .returned (sv x) ∧ Below w.heap.size w w' := by
  obtain ⟨w1, hw1⟩ : ∃ w1, w.alloc (.cells #[Value.int .i64 (l : Int), .int .i64 (i : Int)] 121) = w1 := ⟨_, rfl⟩
  have b1 := (Below.refl w.heap.size w).alloc (Nat.le_refl _) (.cells #[Value.int .i64 (l : Int), .int .i64 (i : Int)] 121)
  have r1 := heap_alloc_new w (.cells #[Value.int .i64 (l : Int), .int .i64 (i : Int)] 121)
  rw [hw1] at b1 r1
  have c0 : w1.cell? ⟨w.heap.size, 0, none⟩ = some (.int .i64 (l : Int)) := by rw [cell_of_row _ _ _ _ _ _ r1]; rfl
  have c1 : w1.cell? ⟨w.heap.size, 1, none⟩ = some (.int .i64 (i : Int)) := by rw [cell_of_row _ _ _ _ _ _ r1]; rfl
  have T1 := t.below b1
  have P1 := placeOf_any T1 hh l i hi
  unfold kv at P1
  dsimp only at P1
  have hdv : i / 2 ^ h ≤ i := Nat.div_le_self _ _
  generalize i / 2 ^ h = i1 at *
  generalize i % 2 ^ h = i2 at *
  have T1 := hid T1
  have B1 := hid b1
  clear r1 b1 t
  go_enter Tryz.func81, Tryz.ntmps81
  go_wp2_with (go_at_call 98; fail)
  refine P1.mono ?_
  rintro e w2 ⟨rfl, hw2⟩
  have b3 := (Below.refl w2.heap.size w2).alloc (Nat.le_refl _) (.cells #[Value.int .i64 (l : Int), .int .i64 (i1 : Int)] 142)
  have r3 := heap_alloc_new w2 (.cells #[Value.int .i64 (l : Int), .int .i64 (i1 : Int)] 142)
  obtain ⟨w3, hw3⟩ : ∃ w3, w2.alloc (.cells #[Value.int .i64 (l : Int), .int .i64 (i1 : Int)] 142) = w3 := ⟨_, rfl⟩
  rw [hw3] at b3 r3
  have B3 := hid (B1.out.trans ((hw2.trans (b3.mono hw2.size)).mono B1.out.size))
  have T3 := T1.out.below (hw2.trans (b3.mono hw2.size))
  obtain ⟨o3, _⟩ := T3.at ((l : Int), (i1 : Int))
  have hlk := (T3.mp.heap (w' := w3.drew) rfl).lookup (p := ((l : Int), (i1 : Int))) ⟨⟨by simp only; omega, by simp only; omega⟩, by simp only; omega, by simp only; omega⟩
  obtain ⟨a, cap, hv, hA, hln, hcp⟩ := o3.at
  obtain ⟨y, rfl, _, hc⟩ := hA i2 x hx
  have hn : i2 < (R ((l : Int), (i1 : Int))).length := (List.getElem?_eq_some_iff.1 hx).1
  obtain ⟨n, hnn⟩ : ∃ n, (R ((l : Int), (i1 : Int))).length = n := ⟨_, rfl⟩
  rw [hnn] at hn hv
  rw [hv] at hlk
  have hlk2 : (Instr.lookup 91 (.map (some b)) (.agg #[.int .i64 (l : Int), .int .i64 (i1 : Int)]) false).run Tryz.prog w3.drew = .ok (.slice (some y) n cap) w3.drew := hlk
  have q2 := T3.c2
  have c3 : w3.cell? ⟨w2.heap.size, 0, none⟩ = some (.int .i64 (l : Int)) := by rw [cell_of_row _ _ _ _ _ _ r3]; rfl
  have c4 : w3.cell? ⟨w2.heap.size, 1, none⟩ = some (.int .i64 (i1 : Int)) := by rw [cell_of_row _ _ _ _ _ _ r3]; rfl
  have k0 : (0 : Int) ≤ (i2 : Int) := by omega
  have k1 : (i2 : Int) < (n : Int) := by omega
  have S0 : w3.cell? ⟨q, 2, none⟩ = some (.map (some b)) ∧ w3.cell? ⟨w2.heap.size, 0, none⟩ = some (.int .i64 (l : Int)) ∧ w3.cell? ⟨w2.heap.size, 1, none⟩ = some (.int .i64 (i1 : Int)) ∧ w3.cell? (y.add i2) = some (sv x) := ⟨q2, c3, c4, hc⟩
  clear T3 o3 hA hx hv hlk r3 b3 hnn hw2
  go_wp2
  go_region_held3 (fun w' => w'.cell? ⟨q, 2, none⟩ = some (.map (some b)) ∧ w'.cell? ⟨w2.heap.size, 0, none⟩ = some (.int .i64 (l : Int)) ∧ w'.cell? ⟨w2.heap.size, 1, none⟩ = some (.int .i64 (i1 : Int)) ∧ w'.cell? (y.add i2) = some (sv x)) (exact S0) (fail)
  go_wp2
  go_ret
  exact ⟨rfl, B3.out.drew⟩
end Go.Proofs.YtenklmjeeejfdaaGreatDoor

namespace Go.Proofs.YtenklmjeeejfdaaGreatDoor
open Go.RowKit
theorem undSlS : Tryz.prog.underlying 23 = some (.slice 9) := by kernel_rfl
theorem append_cell (w : World) (v : Value) (H : List (List UInt8)) (x : List UInt8) (g : Nat) (hc : w.cell? ⟨g, 0, none⟩ = some (sv x)) (hown : Own w 0 v (svs H)) (hlen : H.length ≤ 2000000) :
    ∃ v' w', (Builtin.append_ #[23, 23] 23 #[v, .slice (some ⟨g, 0, none⟩) 1 1]).run Tryz.prog w = .ok v' w' ∧ Own w' 0 v' (svs (H ++ [x])) ∧ Grow w w' v v' := by
  obtain ⟨i0, hi, hz0, hz1, hz2⟩ := info_parts infoS
  have hsrc : Src Tryz.prog 1 23 (.slice (some ⟨g, 0, none⟩) 1 1) 1 [sv x] w :=
    Src.ofSlice _ undSlS ⟨g, 0, none⟩ 1 1 [sv x] (by simp) (fun j u hj => by
      have hj0 : j = 0 := by
        have := (List.getElem?_eq_some_iff.1 hj).1
        simp at this; exact this
      subst hj0
      simp at hj
      rw [Addr.add_mid, ← hj]
      exact hc) (fun u hu => by simp at hu; subst hu; rfl)
  obtain ⟨v', w', h1, h2, h3, h4⟩ := run_append_S (P := Tryz.prog) w 0 23 23 23 9 i0 (.string ⟨#[]⟩) undSlS hi hz0 hz1 rfl v (svs H) hown _ 1 [sv x] hsrc
    (by rw [hz2, svs_length]; omega) (by rw [maxLen, svs_length]; omega) (Nat.zero_le _) (fun _ => by omega)
  refine ⟨v', w', h1, by rw [show svs (H ++ [x]) = svs H ++ [sv x] by simp [svs]]; exact h2, ⟨h3.os, h3.tape, h3.output, h3.size, fun k hk hne => h3.block k hk (Ne.symm hne), ?_⟩⟩
  rcases h4 with h4 | ⟨h4, h5⟩
  · exact .inl h4
  · refine .inr ⟨fun k hk => ?_, h5⟩
    rw [h4] at hk
    injection hk with hk
    omega
def more (R : Int × Int → List (List UInt8)) (p : Int × Int) (x : List UInt8) : Int × Int → List (List UInt8) := fun p' => if p' = p then R p ++ [x] else R p'
theorem more_same (R : Int × Int → List (List UInt8)) (p : Int × Int) (x : List UInt8) : more R p x p = R p ++ [x] := by unfold more; rw [if_pos rfl]
theorem more_other {R : Int × Int → List (List UInt8)} {p p' : Int × Int} {x : List UInt8} (h : p' ≠ p) : more R p x p' = R p' := by unfold more; rw [if_neg h]
theorem keep_core {w w6 : World} {q b h s N : Nat} {es : List ((Int × Int) × Value)} {R : Int × Int → List (List UInt8)} (t : Tr w q b h s es R) (p : Int × Int) (x : List UInt8) (hlen : (R p).length ≤ 2000000) (st : Nat)
    (hk6 : Keep (fun k => k = b) w w6) (hc : w6.cell? ⟨N, 0, none⟩ = some (sv x)) (hlt : b < w6.heap.size)
    (hst : ∀ (w2 : World) (val : Value), w2.heap[b]? = w6.heap[b]? → ∃ w3, (Instr.entryStore 91 (.map (some b)) (goInt st) val).run Tryz.prog w2 = .ok () w3 ∧ Mp w3 b (put es p val) ∧ But b w2 w3 ∧ w3.heap.size = w2.heap.size) :
    ∃ v' w7 w8, (Builtin.append_ #[23, 23] 23 #[look es p, .slice (some ⟨N, 0, none⟩) 1 1]).run Tryz.prog w6 = .ok v' w7 ∧ (Instr.entryStore 91 (.map (some b)) (goInt st) v').run Tryz.prog w7 = .ok () w8 ∧
      Tr w8 q b h s (put es p v') (more R p x) ∧ Mov (Fb q b es) w w8 (Fb q b (put es p v')) ∧ Keep (fun k => k = b ∨ (look es p).ownBlock = some k) w6 w8 ∧ Keep (fun k => (look es p).ownBlock = some k) w6 w7 := by
  obtain ⟨o1, o2⟩ := t.at p
  have o6 : Own w6 0 (look es p) (svs (R p)) := o1.keep hk6 fun k hk e => (o2 k hk).2.2 e
  obtain ⟨v', w7, hap, o7, g7⟩ := append_cell w6 (look es p) (R p) x N hc o6 hlen
  have hb7 : w7.heap[b]? = w6.heap[b]? := g7.old b hlt fun e => (o2 b e).2.2 rfl
  obtain ⟨w8, hst8, mp8, bt8, sz8⟩ := hst w7 v' hb7
  have hq : q < w.heap.size := t.lt q (.inl rfl)
  have hs6 := hk6.size
  have hs7 := g7.size
  -- where the new list lies
  have hnew : ∀ k, v'.ownBlock = some k → (look es p).ownBlock = some k ∨ w6.heap.size ≤ k := fun k hk => by
    rcases g7.alt with e | ⟨e, _⟩
    · exact .inl (e ▸ hk)
    · exact .inr (e k hk)
  have blk : ∀ k, k < w.heap.size → k ≠ b → (look es p).ownBlock ≠ some k → w8.heap[k]? = w.heap[k]? := fun k hk hkb hne =>
    (bt8.block k (by omega) hkb).trans ((g7.old k (by omega) hne).trans (hk6.block k hk hkb))
  refine ⟨v', w7, w8, hap, hst8, ⟨?_, mp8, t.qb, ?_, ?_, ?_⟩, ⟨⟨?_, ?_, ?_, ?_, ?_⟩, ?_⟩, ⟨?_, ?_, ?_, ?_, ?_⟩, g7.keep⟩
  · exact (blk q hq t.qb fun e => (o2 q e).2.1 rfl).trans t.row
  · intro p' v hm
    rcases mem_put.1 hm with ⟨rfl, rfl⟩ | ⟨hne, hm⟩
    · rw [more_same]
      have hb' : ∀ k, v.ownBlock = some k → k ≠ b := fun k hk e => by
        rcases hnew k hk with h1 | h1
        · exact (o2 k h1).2.2 e
        · omega
      refine ⟨o7.but bt8 fun e => hb' b e rfl, fun k hk => ⟨fun e => ?_, hb' k hk⟩⟩
      rcases hnew k hk with h1 | h1
      · exact (o2 k h1).2.1 e
      · omega
    · rw [more_other hne]
      obtain ⟨e1, e2⟩ := t.el p' v hm
      refine ⟨e1.kept (by omega) fun g hg => blk g (e1.ltS g hg) (e2 g hg).2 fun e => ?_, e2⟩
      -- the other lists lie elsewhere
      by_cases hp : has es p
      · obtain ⟨u, hu⟩ := hp
        rw [look_mem t.mp.keys hu] at e
        exact t.apart p' v p u g hm hu hne hg e
      · rw [look_none hp] at e
        cases e
  · intro p' hp'
    have hne : p' ≠ p := fun e => hp' ⟨v', mem_put.2 (.inl ⟨e, rfl⟩)⟩
    rw [more_other hne]
    exact t.no p' fun ⟨u, hu⟩ => hp' ⟨u, mem_put.2 (.inr ⟨hne, hu⟩)⟩
  · have other : ∀ p' u k, (p', u) ∈ es → p' ≠ p → u.ownBlock = some k → v'.ownBlock ≠ some k := fun p' u k hu hne hk e => by
      rcases hnew k e with h1 | h1
      · by_cases hp : has es p
        · obtain ⟨u', hu'⟩ := hp
          rw [look_mem t.mp.keys hu'] at h1
          exact t.apart p' u p u' k hu hu' hne hk h1
        · rw [look_none hp] at h1
          cases h1
      · have := (t.el p' u hu).1.ltS k hk
        omega
    intro p1 v1 p2 v2 k h1 h2 hne hk
    rcases mem_put.1 h1 with ⟨e1, e2⟩ | ⟨n1, m1⟩
    · rcases mem_put.1 h2 with ⟨e3, e4⟩ | ⟨n2, m2⟩
      · exact absurd (e1.trans e3.symm) hne
      · exact fun e => other p2 v2 k m2 n2 e (e2 ▸ hk)
    · rcases mem_put.1 h2 with ⟨e3, e4⟩ | ⟨n2, m2⟩
      · rw [e4]; exact other p1 v1 k m1 n1 hk
      · exact t.apart p1 v1 p2 v2 k m1 m2 hne hk
  · exact bt8.os.trans (g7.os.trans hk6.os)
  · exact bt8.tape.trans (g7.tape.trans hk6.tape)
  · exact bt8.output.trans (g7.output.trans hk6.output)
  · omega
  · intro k hk hF
    exact blk k hk (fun e => hF (.inr (.inl e))) fun e => hF (o2 k e).1
  · intro k hk
    rcases hk with hk | hk | ⟨p', u, hu, hk⟩
    · exact .inl (.inl hk)
    · exact .inl (.inr (.inl hk))
    · rcases mem_put.1 hu with ⟨_, rfl⟩ | ⟨_, hu⟩
      · rcases hnew k hk with h1 | h1
        · exact .inl (o2 k h1).1
        · exact .inr (by omega)
      · exact .inl (.inr (.inr ⟨p', u, hu, hk⟩))
  · exact bt8.os.trans g7.os
  · exact bt8.tape.trans g7.tape
  · exact bt8.output.trans g7.output
  · omega
  · intro k hk hS
    exact (bt8.block k (by omega) fun e => hS (.inl e)).trans (g7.old k hk fun e => hS (.inr e))
end Go.Proofs.YtenklmjeeejfdaaGreatDoor

namespace Go.Proofs.YtenklmjeeejfdaaGreatDoor
open Go.RowKit
theorem keep_A {w : World} {q b h s : Nat} {es : List ((Int × Int) × Value)} {R : Int × Int → List (List UInt8)} (t : Tr w q b h s es R) {p : Int × Int} (hp : InR p) (x : List UInt8) (hlen : (R p).length ≤ 2000000) :
    ∃ st wA v' w7 w8, (Instr.mapEntry 91 (.map (some b)) (.agg #[.int .i64 p.1, .int .i64 p.2])).run Tryz.prog (w.alloc (.cells #[sv x] 9)).drew = .ok (.tuple #[look es p, .int .i64 ((st : Nat) : Int)]) wA ∧
      (Builtin.append_ #[23, 23] 23 #[look es p, .slice (some ⟨w.heap.size, 0, none⟩) 1 1]).run Tryz.prog wA = .ok v' w7 ∧ (Instr.entryStore 91 (.map (some b)) (.int .i64 ((st : Nat) : Int)) v').run Tryz.prog w7 = .ok () w8 ∧
      Hid (∃ es', Tr w8 q b h s es' (more R p x) ∧ Mov (Fb q b es) w w8 (Fb q b es')) ∧ ∀ k, k < w.heap.size → k ≠ b → (look es p).ownBlock ≠ some k → wA.heap[k]? = w.heap[k]? ∧ w7.heap[k]? = w.heap[k]? ∧ w8.heap[k]? = w.heap[k]? := by
  have bd := (Below.refl w.heap.size w).drew
  have ba := bd.alloc (Nat.le_refl _) (.cells #[sv x] 9)
  have TA := t.below ba
  have sz := size_alloc w.drew (.cells #[sv x] 9)
  have hN : w.drew.heap.size = w.heap.size := rfl
  have rN : (w.drew.alloc (.cells #[sv x] 9)).heap[w.heap.size]? = some (.cells #[sv x] 9) := heap_alloc_new w.drew _
  obtain ⟨st, wA, hm, bt, sA, lt, hst⟩ := TA.mp.entry hp
  have hb : b < w.heap.size := t.lt b (.inr (.inl rfl))
  have rA : wA.heap[w.heap.size]? = some (.cells #[sv x] 9 (0, 0)) := (bt.block w.heap.size (by omega) (by omega)).trans rN
  obtain ⟨v', w7, w8, h1, h2, h3, h4, h5, h6⟩ := keep_core TA p x hlen st ⟨bt.os, bt.tape, bt.output, bt.size, fun k hk hne => bt.block k hk hne⟩ (N := w.heap.size) (by rw [cell_of_row _ _ _ _ _ _ rA]; rfl) (by omega) hst
  refine ⟨st, wA, v', w7, w8, hm, h1, h2, hid ⟨_, h3, ⟨?_, fun k hk => ?_⟩⟩, fun k hk hkb hne => ?_⟩
  · exact (Keep.ofBelow ba).trans h4.keep fun _ _ e => e
  · rcases h4.new k hk with e | e
    · exact .inl e
    · exact .inr (by omega)
  · have e1 := ba.block k hk
    have e2 := bt.block k (by omega) hkb
    refine ⟨e2.trans e1, (h6.block k (by omega) hne).trans (e2.trans e1), (h5.block k (by omega) fun e => ?_).trans (e2.trans e1)⟩
    rcases e with e | e
    · exact hkb e
    · exact hne e
def S32 (q g : Nat) (x y z : Value) (w : World) : Prop := w.cell? ⟨q, 2, none⟩ = some x ∧ w.cell? ⟨g, 0, none⟩ = some y ∧ w.cell? ⟨g, 1, none⟩ = some z
theorem S32.heap {q g : Nat} {x y z : Value} {w w' : World} (h : S32 q g x y z w) (h1 : w'.heap[q]? = w.heap[q]?) (h2 : w'.heap[g]? = w.heap[g]?) : S32 q g x y z w' :=
  ⟨(World.cell?_of_block (w := w) h1).trans h.1, (World.cell?_of_block (w := w) h2).trans h.2.1, (World.cell?_of_block (w := w) h2).trans h.2.2⟩
set_option maxRecDepth 100000 in
set_option maxHeartbeats 4000000 in
theorem tkeep_any {w : World} {q b h s : Nat} {es : List ((Int × Int) × Value)} {R : Int × Int → List (List UInt8)} (t : Tr w q b h s es R) (hh : h ≤ 8) (l c : Nat) (hl : l ≤ 60) (hs : s < 4611686018427387904) (hc : s / 2 ^ l = c + 1) (x : List UInt8)
    (hlen : (R ((l : Int), ((c / 2 ^ h : Nat) : Int))).length ≤ 2000000) :
    Calls Tryz.prog 79 #[.pointer (some ⟨q, 0, none⟩), .int .i64 (l : Int), sv x] w fun r w' => r = .returned (.tuple #[]) ∧ ∃ es', Tr w' q b h s es' (more R ((l : Int), ((c / 2 ^ h : Nat) : Int)) x) ∧ Mov (Fb q b es) w w' (Fb q b es') := by
  have hcs : c < 4611686018427387904 := by have := Nat.div_le_self s (2 ^ l); omega
  have P1 := placeOf_any t hh l c hcs
  unfold kv at P1
  dsimp only at P1
  have l0 : (0 : Int) ≤ (l : Int) := by omega
  have l1 : (l : Int) ≤ 64 := by omega
  have s1 : (s : Int) / 2 ^ l = (c : Int) + 1 := by
    have : ((s / 2 ^ l : Nat) : Int) = (c : Int) + 1 := by rw [hc]; simp
    rw [← this]; simp
  have s2 : IntKind.i64.wrap (c : Int) = (c : Int) := wrap_small _ (by omega) (by omega)
  have s3 : (c : Int) + 1 - 1 = (c : Int) := by omega
  have hdv : c / 2 ^ h ≤ c := Nat.div_le_self _ _
  generalize c / 2 ^ h = c1 at *
  generalize c % 2 ^ h = c2 at *
  have q1 := t.c1
  have T0 := hid t
  clear t
  go_enter Tryz.func79, Tryz.ntmps79
  go_wp2_with (go_at_call 98; fail)
  refine P1.mono ?_
  rintro e w2 ⟨rfl, hw2⟩
  have b3 := (Below.refl w2.heap.size w2).alloc (Nat.le_refl _) (.cells #[Value.int .i64 (l : Int), .int .i64 (c1 : Int)] 142)
  have r3 := heap_alloc_new w2 (.cells #[Value.int .i64 (l : Int), .int .i64 (c1 : Int)] 142)
  obtain ⟨w3, hw3⟩ : ∃ w3, w2.alloc (.cells #[Value.int .i64 (l : Int), .int .i64 (c1 : Int)] 142) = w3 := ⟨_, rfl⟩
  rw [hw3] at b3 r3
  have B3 := hid (hw2.trans (b3.mono hw2.size))
  have T3 := T0.out.below B3.out
  have hInR : InR ((l : Int), (c1 : Int)) := ⟨⟨by simp only; omega, by simp only; omega⟩, by simp only; omega, by simp only; omega⟩
  have q2 := T3.c2
  have c3 : w3.cell? ⟨w2.heap.size, 0, none⟩ = some (.int .i64 (l : Int)) := by rw [cell_of_row _ _ _ _ _ _ r3]; rfl
  have c4 : w3.cell? ⟨w2.heap.size, 1, none⟩ = some (.int .i64 (c1 : Int)) := by rw [cell_of_row _ _ _ _ _ _ r3]; rfl
  have S0 : S32 q w2.heap.size (.map (some b)) (.int .i64 (l : Int)) (.int .i64 (c1 : Int)) w3 := ⟨q2, c3, c4⟩
  have hq3 : q < w3.heap.size := T3.lt q (.inl rfl)
  have hg3 : w2.heap.size < w3.heap.size := lt_of_heap r3
  obtain ⟨_, o2⟩ := T3.at ((l : Int), (c1 : Int))
  have hqn : (look es ((l : Int), (c1 : Int))).ownBlock ≠ some q := fun e => (o2 q e).2.1 rfl
  have hgF : ∀ k, Fb q b es k → k < w2.heap.size := fun k hk => (T0.out.below hw2).lt k hk
  have hgn : (look es ((l : Int), (c1 : Int))).ownBlock ≠ some w2.heap.size := fun e => by have := hgF _ (o2 _ e).1; omega
  have hgb : w2.heap.size ≠ b := fun e => by have := hgF b (.inr (.inl rfl)); omega
  obtain ⟨stA, wA, vA, wA7, wA8, mA, aA, sA, HA, kA⟩ := keep_A T3 hInR x hlen
  obtain ⟨kq1, kq2, kq3⟩ := kA q hq3 T3.qb hqn
  obtain ⟨kg1, kg2, kg3⟩ := kA _ hg3 hgb hgn
  have ba := (Below.refl w3.heap.size w3).drew.alloc (Nat.le_refl _) (.cells #[sv x] 9)
  have SA0 := S0.heap (ba.block q hq3) (ba.block _ hg3)
  have SA1 := S0.heap kq1 kg1
  have SA2 := S0.heap kq2 kg2
  have SA3 := S0.heap kq3 kg3
  generalize look es ((l : Int), (c1 : Int)) = v0 at *
  rw [show sv x = Value.string ⟨x.toArray⟩ from rfl] at *
  dsimp only at mA
  clear kA kq1 kq2 kq3 kg1 kg2 kg3 ba o2 hgF hgn hgb hqn T3 q2 c3 c4 r3 b3 hInR P1
  go_wp2
  go_region_held3 (fun w' => w'.cell? ⟨q, 2, none⟩ = some (.map (some b)) ∧ w'.cell? ⟨w2.heap.size, 0, none⟩ = some (.int .i64 (l : Int)) ∧ w'.cell? ⟨w2.heap.size, 1, none⟩ = some (.int .i64 (c1 : Int))) (first | exact S0 | exact SA0 | exact SA1 | exact SA2 | exact SA3) (refine step_append_run rfl _ _ 23 rfl _ _ _ wA7 rfl rfl aA ?_)
  go_end0
  obtain ⟨es', t8, m8⟩ := HA.out
  refine ⟨rfl, es', t8, (Keep.ofBelow B3.out).trans m8.keep fun _ _ e => e, fun k hk => ?_⟩
  rcases m8.new k hk with e | e
  · exact .inl e
  · exact .inr (Nat.le_trans B3.out.size e)
end Go.Proofs.YtenklmjeeejfdaaGreatDoor

namespace Go.Proofs.YtenklmjeeejfdaaGreatDoor
open Go.RowKit
namespace Til
open Tree
theorem more_rf (L : List T) (h : Nat) (cnt : Nat → Nat) (l : Nat) : more (rf L h cnt) ((l : Int), ((cnt l / 2 ^ h : Nat) : Int)) (hs L l (cnt l)) = rf L h (up cnt l) := by
  funext p
  by_cases hp : p = ((l : Int), ((cnt l / 2 ^ h : Nat) : Int))
  · subst hp
    rw [more_same, rf_up_same]
  · rw [more_other hp, rf_up_other L h cnt l hp]
theorem gc_at (n k : Nat) : gc n k k = cn n k := by unfold gc; rw [if_neg (by omega)]
theorem gc_be (n k : Nat) : gc n (k + 1) k = cn (n + 1) k := by unfold gc; rw [if_pos (by omega)]
theorem grow_step {L : List T} {n k : Nat} (hL : L.length = n + 1) (hd : 2 ^ (k + 1) ∣ n + 1) : 1 ≤ cn n k ∧ cn (n + 1) k = cn n k + 1 ∧ hs L (k + 1) (cn n (k + 1)) = nd (hs L k (cn n k - 1)) (hs L k (cn n k)) := by
  have hd0 : 2 ^ k ∣ n + 1 := Nat.dvd_trans (Nat.pow_dvd_pow 2 (by omega)) hd
  have h1 := cn_more hd0
  have h2 := cn_more hd
  have hp := Nat.two_pow_pos k
  have e1 : cn (n + 1) k = 2 * cn (n + 1) (k + 1) := by
    unfold cn
    obtain ⟨c, hc⟩ := hd
    rw [hc, Nat.mul_div_cancel_left _ (Nat.two_pow_pos (k + 1)), Nat.pow_succ, Nat.mul_assoc, Nat.mul_div_cancel_left _ hp]
  refine ⟨by omega, h1, ?_⟩
  rw [hs_node (by have := cn_le (n + 1) (k + 1); rw [h2] at this; omega), show 2 * cn n (k + 1) = cn n k - 1 by omega, show cn n k - 1 + 1 = cn n k by omega]
theorem gc_row {L : List T} {h n k i : Nat} (hi : i < cn (n + 1) k) : (rf L h (gc n (k + 1)) ((k : Int), ((i / 2 ^ h : Nat) : Int)))[i % 2 ^ h]? = some (hs L k i) := by
  rw [rf_nat, gc_be]
  exact row_at hi
theorem rf_len (L : List T) (h : Nat) (hh : h ≤ 8) (cnt : Nat → Nat) (p : Int × Int) : (rf L h cnt p).length ≤ 2000000 := by
  have hp2 : 2 ^ h ≤ 256 := Nat.pow_le_pow_right (n := 2) (by omega) hh
  unfold rf
  split
  · rw [row_len]; omega
  · simp
theorem ctz_dvd {x : Nat} (h0 : x ≠ 0) (hx : x < 18446744073709551616) : ∃ c, Go.Lib.ctz 64 x = c ∧ c < 64 ∧ (∀ k, k ≤ c → 2 ^ k ∣ x) ∧ ¬ 2 ^ (c + 1) ∣ x := by
  have e1 : Go.Lib.ctz 64 x = Go.Lib.ctzFrom 64 x := by unfold Go.Lib.ctz; rw [if_neg h0]
  obtain ⟨m, hm, hc⟩ := Go.Lib.ctzFrom_spec 64 x (by omega) hx
  rw [e1]
  generalize Go.Lib.ctzFrom 64 x = c at *
  refine ⟨c, rfl, hc, fun k hk => ?_, fun ⟨d, hd⟩ => ?_⟩
  · rw [hm]
    exact Nat.dvd_trans (Nat.pow_dvd_pow 2 hk) (Nat.dvd_mul_right _ _)
  · rw [hm, Nat.pow_succ, Nat.mul_assoc] at hd
    have := Nat.eq_of_mul_eq_mul_left (Nat.two_pow_pos c) hd
    omega
end Til
theorem tnode_any {l r m : List UInt8} (h : Hid (Tree.nd l r = m)) (w : World) (T : Tabs w) :
    Calls Tryz.prog 82 #[sv l, sv r] w fun e w' => e = .returned (sv m) ∧ Below w.heap.size w w' := by
  obtain ⟨c, hc⟩ : ∃ c, Hid (nodeOf l r = (m, c)) := ⟨(nodeOf l r).2, by unfold Hid; rw [← h.out, ← nodeOf_nd]⟩
  go_enter Tryz.func82, Tryz.ntmps82
  go_wp2_with (go_at_call 101; refine (node_at hc w T).mono ?_; rintro e w1 ⟨rfl, hw1⟩)
  go_ret
  exact ⟨rfl, hw1⟩
theorem Mov.trans {F F' F'' : Nat → Prop} {w w1 w2 : World} (h : Mov F w w1 F') (k : Mov F' w1 w2 F'') : Mov F w w2 F'' := by
  refine ⟨h.keep.trans k.keep fun j hj e => ?_, fun j hj => ?_⟩
  · rcases h.new j e with e | e
    · exact e
    · omega
  · rcases k.new j hj with e | e
    · exact h.new j e
    · exact .inr (Nat.le_trans h.keep.size e)
theorem Mov.ofBelow {F : Nat → Prop} {w w' : World} (h : Below w.heap.size w w') : Mov F w w' F := ⟨Keep.ofBelow h, fun _ e => .inl e⟩
theorem Tr.sized {w : World} {q b h s : Nat} {es : List ((Int × Int) × Value)} {R : Int × Int → List (List UInt8)} (t : Tr w q b h s es R) (s' : Nat) : Tr (w.setCell ⟨q, 1, none⟩ (.int .i64 (s' : Int))) q b h s' es R ∧ Mov (Fb q b es) w (w.setCell ⟨q, 1, none⟩ (.int .i64 (s' : Int))) (Fb q b es) := by
  have k1 := Keep.ofSet (S := fun k => k = q) w q 1 (.int .i64 (s' : Int)) rfl
  have e : ∀ k, k < w.heap.size → k ≠ q → (w.setCell ⟨q, 1, none⟩ (.int .i64 (s' : Int))).heap[k]? = w.heap[k]? := fun k hk hne => k1.block k hk hne
  refine ⟨⟨heap_setCell_same w q 1 _ _ _ t.row, t.mp.heap (e b t.mp.lt (Ne.symm t.qb)), t.qb, fun p v hm => ⟨?_, (t.el p v hm).2⟩, t.no, t.apart⟩, ⟨k1.mono fun k _ e => .inl e, fun _ e => .inl e⟩⟩
  exact (t.el p v hm).1.kept k1.size fun g hg => e g ((t.el p v hm).1.ltS g hg) ((t.el p v hm).2 g hg).1
end Go.Proofs.YtenklmjeeejfdaaGreatDoor

namespace Go.Proofs.YtenklmjeeejfdaaGreatDoor
open Go.RowKit
theorem keep_lvl {w : World} {q b h n k : Nat} {es : List ((Int × Int) × Value)} {L : List (List UInt8)} (t : Tr w q b h (n + 1) es (Til.rf L h (Til.gc n k))) (hh : h ≤ 8) (hk : k ≤ 60) (hn : n < 4611686018427387903) (hd : 2 ^ k ∣ n + 1) {x : List UInt8} (hx : Til.hs L k (Til.cn n k) = x) :
    Calls Tryz.prog 79 #[.pointer (some ⟨q, 0, none⟩), .int .i64 (k : Int), sv x] w fun r w' => r = .returned (.tuple #[]) ∧ ∃ es', Tr w' q b h (n + 1) es' (Til.rf L h (Til.gc n (k + 1))) ∧ Mov (Fb q b es) w w' (Fb q b es') := by
  have h1 := tkeep_any t hh k (Til.cn n k) hk (by omega) (Til.cn_more hd) x (Til.rf_len L h hh _ _)
  have h2 := Til.more_rf L h (Til.gc n k) k
  rw [Til.gc_at, hx, Til.gc_up hd] at h2
  rw [h2] at h1
  exact h1
set_option maxRecDepth 100000 in
set_option maxHeartbeats 4000000 in
theorem tgrow_any {w : World} {q b h n : Nat} {es : List ((Int × Int) × Value)} {L : List (List UInt8)} (t : Tr w q b h n es (Til.rf L h (Til.cn n))) (hL : L.length = n) (hn : n < 1099511627776) (hh : h ≤ 8) (x : List UInt8) (Z : Tb w) (hF : ∀ k, Fb q b es k → 4 ≤ k) :
    Calls Tryz.prog 54 #[.pointer (some ⟨q, 0, none⟩), sv x] w fun r w' => r = .returned (.tuple #[]) ∧ ∃ es', Tr w' q b h (n + 1) es' (Til.rf (L ++ [x]) h (Til.cn (n + 1))) ∧ Mov (Fb q b es) w w' (Fb q b es') := by
  have R0 : Til.rf L h (Til.cn n) = Til.rf (L ++ [x]) h (Til.gc n 0) := by
    rw [Til.gc_zero]
    exact (funext fun p => Til.rf_append (fun l => by rw [hL]; exact Til.cn_le n l) p).symm
  rw [R0] at t
  have hx0 : Til.hs (L ++ [x]) 0 (Til.cn n 0) = x := by
    have : Til.cn n 0 = n := by unfold Til.cn; rw [Nat.pow_zero, Nat.div_one]
    rw [this, Til.hs_leaf (by rw [List.length_append, hL]; simp)]
    simp [← hL]
  have hL' : (L ++ [x]).length = n + 1 := by rw [List.length_append, hL]; rfl
  obtain ⟨t1, m1⟩ := t.sized (n + 1)
  have K0 := keep_lvl t1 hh (k := 0) (by omega) (by omega) (by rw [Nat.pow_zero]; exact Nat.one_dvd _) hx0
  rw [show ((0 : Nat) : Int) = 0 from rfl] at K0
  have HX0 := hid hx0
  generalize hLx : L ++ [x] = L' at *
  have q1 := t.c1
  have f1 := t.f1
  obtain ⟨n1, hn1⟩ : ∃ n1 : Nat, n + 1 = n1 := ⟨_, rfl⟩
  have w1e : IntKind.i64.wrap ((n : Int) + 1) = (n1 : Int) := by rw [wrap_small _ (by omega) (by omega)]; omega
  obtain ⟨c, hc, hc64, hdv, hnd⟩ := Til.ctz_dvd (x := n1) (by omega) (by omega)
  have u1 : IntKind.u64.wrap (n1 : Int) = (n1 : Int) := by rw [IntKind.wrap_u64]; omega
  have tz := fun w' (Z : Tb w') => tz_any n1 (by omega) w' Z.z
  rw [hc] at tz
  have hqlt : q < w.heap.size := t.lt q (.inl rfl)
  have M1 := hid m1
  have HN1 := hid hn1
  have HL' := hid hL'
  have HF := hid hF
  have HZ := hid Z
  rw [hn1] at t1 K0 M1
  obtain ⟨w1, hw1⟩ : ∃ w1, w.setCell ⟨q, 1, none⟩ (.int .i64 (n1 : Int)) = w1 := ⟨_, rfl⟩
  rw [hw1] at t1 K0 M1
  have hc40 : c ≤ 40 := by
    have h2 := Nat.le_of_dvd (by omega) (hdv c (Nat.le_refl _))
    have h3 : 2 ^ c < 2 ^ 41 := by omega
    have := (Nat.pow_lt_pow_iff_right (a := 2) (by omega)).1 h3
    omega
  clear t hF Z m1 hL' R0 hx0 hLx hc
  have T1 := hid t1
  clear t1
  go_enter Tryz.func54, Tryz.ntmps54
  go_wp2_with (go_at_call 79; fail)
  refine K0.mono ?_
  rintro e w2 ⟨rfl, es2, t2, m2⟩
  have M2 := hid (M1.out.trans m2)
  have T2 := hid t2
  have Z2 := hid (HZ.out.below (M2.out.below HZ.out.lt HF.out).1 (Nat.le_refl _))
  have q2 := t2.c1
  clear m2 t2 K0 M1 T1
  go_wp2_with (go_at_call 80; refine (tz _ Z2.out).mono ?_; rintro e w3 ⟨rfl, rfl⟩)
  obtain ⟨w2, rfl⟩ : ∃ w2, w2 = w3 := ⟨_, rfl⟩
  clear q2 tz hw1
  go_loopw [24, 4] (fun i hv w' => ∃ (k : Nat) (es' : List ((Int × Int) × Value)) (y : List UInt8), i = .int .i64 (k : Int) ∧ k ≤ c ∧ hv = sv y ∧ Hid (Til.hs L' k (Til.cn n k) = y) ∧ Hid (Tr w' q b h n1 es' (Til.rf L' h (Til.gc n (k + 1)))) ∧ Hid (Mov (Fb q b es) w w' (Fb q b es'))) (fun i _ _ => c - (intOf i).toNat)
  case atStart => exact ⟨0, es2, x, rfl, by omega, rfl, HX0, T2, M2⟩
  case round =>
    clear T2 M2 Z2 HX0
    obtain ⟨k, es', y, rfl, hk, rfl, hy, hT, hM⟩ := hrel
    by_cases hkc : k < c
    · have c0 : (k : Int) < (c : Int) := by omega
      obtain ⟨g1, g2, g3⟩ := Til.grow_step (L := L') (n := n) (k := k) HL'.out (by rw [HN1.out]; exact hdv (k + 1) (by omega))
      rw [HN1.out] at g2
      have g4 := Til.gc_row (L := L') (h := h) (n := n) (k := k) (i := Til.cn n k - 1) (by rw [HN1.out, g2]; omega)
      have Zr := hid (HZ.out.below (hM.out.below HZ.out.lt HF.out).1 (Nat.le_refl _))
      have q1 := hT.out.c1
      have hck : Til.cn n k ≤ n := Nat.div_le_self _ _
      obtain ⟨ck, hck2⟩ : ∃ ck, Til.cn n k = ck + 1 := ⟨Til.cn n k - 1, by omega⟩
      rw [hck2, Nat.add_sub_cancel] at g4
      have hl := thash_any hT.out hh k ck (by omega) (by omega) g4
      have s1 : (n1 : Int) / 2 ^ k = (ck : Int) + 2 := by
        have h1 : ((n1 / 2 ^ k : Nat) : Int) = (ck : Int) + 2 := by
          have : n1 / 2 ^ k = ck + 2 := by have := g2; unfold Til.cn at this hck2; omega
          rw [this]; simp
        rw [← h1]; simp
      have s2 : (ck : Int) + 2 - 2 = (ck : Int) := by omega
      have s3 : IntKind.i64.wrap (ck : Int) = (ck : Int) := wrap_small _ (by omega) (by omega)
      have l0 : (0 : Int) ≤ (k : Int) := by omega
      have l1 : (k : Int) ≤ 64 := by omega
      have l2 : IntKind.i64.wrap ((k : Int) + 1) = ((k + 1 : Nat) : Int) := by rw [wrap_small _ (by omega) (by omega)]; omega
      rw [hck2, Nat.add_sub_cancel] at g3
      obtain ⟨lh, hlh⟩ : ∃ lh, Hid (Til.hs L' k ck = lh) := ⟨_, rfl⟩
      have hy2 : Til.hs L' k (ck + 1) = y := by rw [← hck2]; exact hy.out
      rw [hlh.out, hy2] at g3
      rw [hlh.out] at hl
      obtain ⟨y', hy'⟩ : ∃ y', Hid (Tree.nd lh y = y') := ⟨_, rfl⟩
      rw [hy'.out] at g3
      have HY' := hid g3
      clear g1 g2 g3 g4 hck hy hy2 hck2 hlh
      go_wp2_with (go_at_call 81; fail)
      refine hl.mono ?_
      rintro e w4 ⟨rfl, hw4⟩
      have Z4 := hid (Zr.out.below hw4 Zr.out.lt)
      have T4 := hT.out.below hw4
      have N4 := tnode_any hy' w4 Z4.out.t
      clear hl q1
      go_wp2_with (go_at_call 82; fail)
      refine N4.mono ?_
      rintro e w5 ⟨rfl, hw5⟩
      have b5 := hw4.trans (hw5.mono hw4.size)
      have T5 := hT.out.below b5
      rw [← HN1.out] at T5
      have K5 := keep_lvl T5 hh (k := k + 1) (by omega) (by omega) (by rw [HN1.out]; exact hdv (k + 1) (by omega)) HY'.out
      rw [HN1.out] at K5
      have M5 := hid (hM.out.trans (Mov.ofBelow (F := Fb q b es') b5))
      clear N4 hw4 hw5 b5 T4 T5 hT hM Zr Z4
      go_wp2_with (go_at_call 79; fail)
      refine K5.mono ?_
      rintro e w6 ⟨rfl, es6, t6, m6⟩
      have M6 := hid (M5.out.trans m6)
      have T6 := hid t6
      clear K5 M5 m6 t6
      go_wp2
      exact ⟨⟨k + 1, es6, y', by go_num, by omega, rfl, HY', T6, M6⟩, by simp [intOf]; omega⟩
    · obtain rfl : k = c := by omega
      have c0 : ¬ (k : Int) < (k : Int) := by omega
      go_wp2
      go_end0
      refine ⟨rfl, es', ?_, hM.out⟩
      have h1 := hT.out
      rw [Til.gc_end (by rw [HN1.out]; exact hnd), HN1.out] at h1
      exact h1
end Go.Proofs.YtenklmjeeejfdaaGreatDoor
